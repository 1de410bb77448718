/- A region that asks a pager for its free pages, its chain and how many there are, and appends the chain to numbers copied: in any order. -/
import Derived.Test.YtpidnkfcccboaaaGreatKFreeCover
import Derived.Test.YtpidnkfcccboaaaGreatKInv4
import Derived.Test.YtpidnkfcccboaaaGreatKPagerCells
import Derived.Test.YtpidnkfcccboaaaGreatKPagerWithout
namespace Go.Proofs.YtpidnkfcccboaaaGreat.PagerJoin
open Go.RowKit Base PagePlain PageSmall FreePlain FreeMem SuperPlain SuperRefCheck PagerPlain PagerTold PagerNum PagerCov PagerSpec PagerPlumb PagerLaw PagerDo PagerAwake PagerRun PagerWithout FreeCov DiskMem

set_option maxRecDepth 100000 in
/-- append, where it comes to lie -/
theorem run_append_at {w : World} {base : Nat} {t e : TypeId} {bytes : Nat} (ty : TypeId) (hE : Elem Tryz.prog t e bytes) {A A2 : Option Addr} {c c2 B : Nat} {xs news : List Value} (hown : Own w base e A c xs)
  (hr : Row w B A2 news) (h1 : ∀ u ∈ news, u.oneCell' = true) (h63 : xs.length + news.length ≤ maxLen) (hbytes : (xs.length + news.length) * bytes ≤ 140737488355328) (hbase : base ≤ w.heap.size) :
  ∃ A' c' w', (Builtin.append_ #[t, t] ty #[.slice A xs.length c, .slice A2 news.length c2]).run Tryz.prog w = .ok (.slice A' (xs.length + news.length) c') w' ∧ Own w' base e A' c' (xs ++ news) ∧ w.grownBy w' (Value.slice A xs.length c).ownBlock ∧
   ((Value.slice A' (xs.length + news.length) c').ownBlock = (Value.slice A xs.length c).ownBlock ∨ (Value.slice A' (xs.length + news.length) c').ownBlock = some w.heap.size) := by
 by_cases hne : news = []
 ·subst hne
  cases A2 with
  | some ad =>
   obtain ⟨ht, i, z, hi, hz, hs, hby, hzs⟩ := hE
   obtain ⟨v', w', hrun, h2, h3, _, h5⟩ := run_append_own_at (P := Tryz.prog) w base t ty e i z 1 bytes ht hi hz hs hby hzs (by omega) (.slice A xs.length c) xs.length xs hown ad 0 c2 [] (by simp) (fun j u hu => by simp at hu) h1 h63 hbytes hbase
   have hform : ∃ A' c', v' = .slice A' (xs.length + 0) c' := by
    rcases h2.2 with ⟨h4, h5⟩ | ⟨g, cap, cur, h4, _⟩
    ·exact ⟨none, 0, by rw [h4, h5]⟩
    ·exact ⟨_, _, h4⟩
   obtain ⟨A', c', rfl⟩ := hform
   exact ⟨A', c', w', hrun, by unfold Own; rw [List.length_append]; exact h2, h3, h5⟩
  | none =>
   obtain ⟨ht, i, z, hi, hz, hs, hby, hzs⟩ := hE
   refine ⟨A, c, w, ?_, by simpa using hown, World.grownBy.refl w _, .inl (by simp)⟩
   rcases hown.2 with ⟨h1, h2⟩ | ⟨g, cap, cur, h1, _, _, hnc, _⟩
   ·injection h1 with h3 h4 h5
    subst h3 h5
    obtain rfl : xs = [] := List.eq_nil_of_length_eq_zero h2
    simp [Builtin.append_, run_underlying ht, sizeOf, typeInfo, hi, Builtin.lenOf, Builtin.firstCells]
   ·injection h1 with h3 h4 h5
    subst h3 h5
    simp [Builtin.append_, run_underlying ht, sizeOf, typeInfo, hi, Builtin.lenOf, Builtin.firstCells, hnc, storeCells]
 ·exact FreeMid.run_append_loc ty hE hown hr hne h1 h63 hbytes hbase
theorem upd_no {q : Nat → Bool} {i j : Nat} (h : Nat.beq j i = false) : Inv4.upd q i j = q j := by unfold Inv4.upd; rw [h]; rfl
theorem upd_yes {q : Nat → Bool} (i : Nat) : Inv4.upd q i i = true := by unfold Inv4.upd; rw [Nat.beq_refl]; rfl
theorem put_ne {a : Act} {d s : Tmp} {v : Value} (h : s ≠ d) : (a.put (some d) v).tmps.getD s undef = a.tmps.getD s undef := by
 simp only [Act.put, Array.getD_eq_getD_getElem?]
 rw [Array.getElem?_setIfInBounds_ne fun e => h e.symm]
theorem put_eq {a : Act} {d : Tmp} {v : Value} (h : d < a.tmps.size) : (a.put (some d) v).tmps.getD d undef = v := by
 simp only [Act.put, Array.getD_eq_getD_getElem?]
 rw [Array.getElem?_setIfInBounds_self_of_lt h]
 rfl
/-- what stays throughout: B parts what is old from what is new -/
structure JB (M : Mem) (W : World) (p d : Nat) (Q : PS) (mq : Int) (S : Blks) (U KK : List Int) (A5 A6 : Option Addr) (B : Nat) (w : World) : Prop where
 pm : ∃ F, M w p d Q F mq ∧ (∀ b, F b → ¬ S b) ∧ ∀ b, F b → b < B
 base : Below W.heap.size W w
 bw : W.heap.size ≤ B
 sB : ∀ b, S b → b < B
 lo : ∀ b, b < W.heap.size → S b
 size : B ≤ w.heap.size
 rU : RowP w S A5 (intsV U)
 rK : RowP w S A6 (intsV KK)
section
variable {M : Mem} (X : Specs M) {W w w' : World} {p d : Nat} {Q : PS} {mq : Int} {S : Blks} {U KK : List Int} {A5 A6 : Option Addr} {B : Nat}
include X in
theorem JB.turn (h : JB M W p d Q mq S U KK A5 A6 B w) {G : Blks} (t : Turn G w w') (hG : ∀ b, G b → B ≤ b) : JB M W p d Q mq S U KK A5 A6 B w' := by
 obtain ⟨⟨F, h1, h2, h3⟩, h4, h5, h6, h7, h8, h9, h10⟩ := h
 have hS : ∀ b, S b → ¬ G b := fun b hb hg => by have := h6 b hb; have := hG b hg; omega
 exact ⟨⟨F, X.keep h1 t fun b hb hg => by have := h3 b hb; have := hG b hg; omega, h2, h3⟩, t.belowOf h4 (Nat.le_trans h5 h8) fun b hg => Nat.le_trans h5 (hG b hg), h5, h6, h7, Nat.le_trans h8 t.size, h9.turn t hS, h10.turn t hS⟩
include X in
theorem JB.below (h : JB M W p d Q mq S U KK A5 A6 B w) (hb : Below w.heap.size w w') : JB M W p d Q mq S U KK A5 A6 B w' :=
 h.turn X (Turn.ofBelow (F := fun _ => False) hb) fun _ hf => hf.elim
theorem JB.of (h : PM M W w p d Q mq S) (hX : Specs M) (hu : RowP w S A5 (intsV U)) (hk : RowP w S A6 (intsV KK)) : JB M W p d Q mq S U KK A5 A6 w.heap.size w := by
 obtain ⟨⟨F, h1, h2⟩, h3, h4, h5⟩ := h
 exact ⟨⟨F, h1, h2, hX.lt h1⟩, h5, h5.size, h4, h3, Nat.le_refl _, hu, hk⟩
theorem JB.to (h : JB M W p d Q mq S U KK A5 A6 B w) : PM M W w p d Q mq S := by
 obtain ⟨⟨F, h1, h2, h3⟩, h4, h5, h6, h7, h8, h9, h10⟩ := h
 exact ⟨⟨F, h1, h2⟩, h7, fun b hb => Nat.lt_of_lt_of_le (h6 b hb) h8, h4⟩
end
/-- none of the rows that slots sE and sO own, if operations oE and oO are done -/
def Apt (B : Nat) (sE sO : Tmp) (oE oO : Nat) (q : Nat → Bool) (a : Act) : Blks := fun b => B ≤ b ∧ ¬ (q oE = true ∧ (a.tmps.getD sE undef).ownBlock = some b) ∧ ¬ (q oO = true ∧ (a.tmps.getD sO undef).ownBlock = some b)
/-- between two operations: slot sF has the free pages (operation oF), sE an empty row, sO the numbers copied, sC the chain, sA both -/
structure JC (M : Mem) (W : World) (p d : Nat) (Q : PS) (mq : Int) (S : Blks) (U KK : List Int) (A5 A6 : Option Addr) (B : Nat) (sF sE sO sC sA : Tmp) (oF oE oO oC oA : Nat) (q : Nat → Bool) (a : Act) (w : World) : Prop where
 b : JB M W p d Q mq S U KK A5 A6 B w
 xE : q oE = true → ∀ b, (a.tmps.getD sE undef).ownBlock = some b → B ≤ b ∧ b < w.heap.size
 xO : q oO = true → ∀ b, (a.tmps.getD sO undef).ownBlock = some b → B ≤ b ∧ b < w.heap.size
 f0 : q oE = true → q oO = false → ∃ A, a.tmps.getD sE undef = .slice A 0 0 ∧ Own w B 3 A 0 (intsV [])
 f1 : q oF = true → ∃ A c, a.tmps.getD sF undef = .slice A Q.fl.length c ∧ RowP w (Apt B sE sO oE oO q a) A (fr Q.fl)
 f4 : q oO = true → q oA = false → ∃ A c, a.tmps.getD sO undef = .slice A U.length c ∧ Own w B 3 A c (intsV U)
 f6 : q oC = true → ∃ A c, a.tmps.getD sC undef = .slice A Q.ch.length c ∧ RowP w (Apt B sE sO oE oO q a) A (intsV Q.ch)
 f7 : q oA = true → ∃ A c, a.tmps.getD sA undef = .slice A (U.length + Q.ch.length) c ∧ Own w B 3 A c (intsV U ++ intsV Q.ch)
section
variable {M : Mem} (X : Specs M) {W w w' : World} {p d : Nat} {Q : PS} {mq : Int} {S : Blks} {U KK : List Int} {A5 A6 : Option Addr} {B : Nat} {sF sE sO sC sA : Tmp} {oF oE oO oC oA : Nat} {q : Nat → Bool} {a : Act}
theorem JC.start (h : JB M W p d Q mq S U KK A5 A6 B w) (a : Act) : JC M W p d Q mq S U KK A5 A6 B sF sE sO sC sA oF oE oO oC oA (fun _ => false) a w :=
 ⟨h, (fun q => by cases q), (fun q => by cases q), (fun q => by cases q), (fun q => by cases q), (fun q => by cases q), (fun q => by cases q), (fun q => by cases q)⟩
theorem apt_same {i : Nat} {t : Tmp} {v : Value} (hE : sE ≠ t) (iE : Nat.beq oE i = false) (hO : sO ≠ t) (iO : Nat.beq oO i = false) : Apt B sE sO oE oO (Inv4.upd q i) (a.put (some t) v) = Apt B sE sO oE oO q a := by
 unfold Apt
 rw [upd_no iO, put_ne hO, upd_no iE, put_ne hE]
theorem row_lt {w : World} {S : Blks} {A : Option Addr} {vs : List Value} (r : RowP w S A vs) : RowP w (fun b => S b ∧ b < w.heap.size) A vs := fun k v hv => by
 obtain ⟨ad, e1, e2, e3, e4⟩ := r k v hv
 exact ⟨ad, e1, ⟨e2, e3⟩, e3, e4⟩
include X in
/-- the free pages are told -/
theorem JC.free (h : JC M W p d Q mq S U KK A5 A6 B sF sE sO sC sA oF oE oO oC oA q a w) (hb : Below w.heap.size w w') (hz : sF < a.tmps.size) (hE : sE ≠ sF) (hO : sO ≠ sF) (hC : sC ≠ sF) (hA : sA ≠ sF) (iE : Nat.beq oE oF = false) (iO : Nat.beq oO oF = false) (iC : Nat.beq oC oF = false) (iA : Nat.beq oA oF = false) {A : Option Addr} {c : Nat} (hr : RowP w' (fun b => w.heap.size ≤ b) A (fr Q.fl)) :
  JC M W p d Q mq S U KK A5 A6 B sF sE sO sC sA oF oE oO oC oA (Inv4.upd q oF) (a.put (some sF) (.slice A Q.fl.length c)) w' := by
 obtain ⟨h0, e1, h1, e2, h2, h3, h4, h5⟩ := h
 refine ⟨h0.below X hb, ?_, ?_, ?_, ?_, ?_, ?_, ?_⟩
 ·rw [upd_no iE, put_ne hE]; exact fun q b e => ⟨(e1 q b e).1, Nat.lt_of_lt_of_le (e1 q b e).2 hb.size⟩
 ·rw [upd_no iO, put_ne hO]; exact fun q b e => ⟨(h1 q b e).1, Nat.lt_of_lt_of_le (h1 q b e).2 hb.size⟩
 ·rw [upd_no iE, upd_no iO, put_ne hE]; exact fun q z => by obtain ⟨A, e, r⟩ := e2 q z; exact ⟨A, e, r.later hb⟩
 ·rw [put_eq hz, apt_same hE iE hO iO]; exact fun _ => ⟨A, c, rfl, hr.wide fun b hs => ⟨Nat.le_trans h0.size hs, fun z => by have := (e1 z.1 b z.2).2; omega, fun z => by have := (h1 z.1 b z.2).2; omega⟩⟩
 ·rw [upd_no iO, upd_no iA, put_ne hO]; exact fun q z => by obtain ⟨A, c, e, r⟩ := h3 q z; exact ⟨A, c, e, r.later hb⟩
 ·rw [upd_no iC, put_ne hC, apt_same hE iE hO iO]; exact fun q => by obtain ⟨A, c, e, r⟩ := h4 q; exact ⟨A, c, e, r.below hb⟩
 ·rw [upd_no iA, put_ne hA]; exact fun q => by obtain ⟨A, c, e, r⟩ := h5 q; exact ⟨A, c, e, r.later hb⟩
include X in
/-- the chain is told -/
theorem JC.chain (h : JC M W p d Q mq S U KK A5 A6 B sF sE sO sC sA oF oE oO oC oA q a w) (hb : Below w.heap.size w w') (hz : sC < a.tmps.size) (hE : sE ≠ sC) (hO : sO ≠ sC) (hF : sF ≠ sC) (hA : sA ≠ sC) (iE : Nat.beq oE oC = false) (iO : Nat.beq oO oC = false) (iF : Nat.beq oF oC = false) (iA : Nat.beq oA oC = false) {A : Option Addr} {c : Nat} (hr : RowP w' (fun b => w.heap.size ≤ b) A (intsV Q.ch)) :
  JC M W p d Q mq S U KK A5 A6 B sF sE sO sC sA oF oE oO oC oA (Inv4.upd q oC) (a.put (some sC) (.slice A Q.ch.length c)) w' := by
 obtain ⟨h0, e1, h1, e2, h2, h3, h4, h5⟩ := h
 refine ⟨h0.below X hb, ?_, ?_, ?_, ?_, ?_, ?_, ?_⟩
 ·rw [upd_no iE, put_ne hE]; exact fun q b e => ⟨(e1 q b e).1, Nat.lt_of_lt_of_le (e1 q b e).2 hb.size⟩
 ·rw [upd_no iO, put_ne hO]; exact fun q b e => ⟨(h1 q b e).1, Nat.lt_of_lt_of_le (h1 q b e).2 hb.size⟩
 ·rw [upd_no iE, upd_no iO, put_ne hE]; exact fun q z => by obtain ⟨A, e, r⟩ := e2 q z; exact ⟨A, e, r.later hb⟩
 ·rw [upd_no iF, put_ne hF, apt_same hE iE hO iO]; exact fun q => by obtain ⟨A, c, e, r⟩ := h2 q; exact ⟨A, c, e, r.below hb⟩
 ·rw [upd_no iO, upd_no iA, put_ne hO]; exact fun q z => by obtain ⟨A, c, e, r⟩ := h3 q z; exact ⟨A, c, e, r.later hb⟩
 ·rw [put_eq hz, apt_same hE iE hO iO]; exact fun _ => ⟨A, c, rfl, hr.wide fun b hs => ⟨Nat.le_trans h0.size hs, fun z => by have := (e1 z.1 b z.2).2; omega, fun z => by have := (h1 z.1 b z.2).2; omega⟩⟩
 ·rw [upd_no iA, put_ne hA]; exact fun q => by obtain ⟨A, c, e, r⟩ := h5 q; exact ⟨A, c, e, r.later hb⟩
include X in
/-- an empty row is made -/
theorem JC.empty (h : JC M W p d Q mq S U KK A5 A6 B sF sE sO sC sA oF oE oO oC oA q a w) (hz : sE < a.tmps.size) (hF : sF ≠ sE) (hO : sO ≠ sE) (hC : sC ≠ sE) (hA : sA ≠ sE) (iF : Nat.beq oF oE = false) (iO : Nat.beq oO oE = false) (iC : Nat.beq oC oE = false) (iA : Nat.beq oA oE = false) :
  JC M W p d Q mq S U KK A5 A6 B sF sE sO sC sA oF oE oO oC oA (Inv4.upd q oE) (a.put (some sE) (.slice (some ⟨w.heap.size, 0, none⟩) 0 0)) (w.alloc (.cells #[] 3)) := by
 obtain ⟨h0, e1, h1, e2, h2, h3, h4, h5⟩ := h
 have hb := al' w (.cells #[] 3)
 have hap : ∀ b, Apt B sE sO oE oO q a b ∧ b < w.heap.size → Apt B sE sO oE oO (Inv4.upd q oE) (a.put (some sE) (.slice (some ⟨w.heap.size, 0, none⟩) 0 0)) b := fun b hs => ⟨hs.1.1, fun z => by rw [put_eq hz] at z; have := z.2; simp only [Value.ownBlock, Option.some.injEq] at this; omega, fun z => by rw [upd_no iO, put_ne hO] at z; exact hs.1.2.2 z⟩
 refine ⟨h0.below X hb, ?_, ?_, ?_, ?_, ?_, ?_, ?_⟩
 ·rw [put_eq hz]; exact fun _ b e => by simp only [Value.ownBlock, Option.some.injEq] at e; subst e; exact ⟨h0.size, by simp⟩
 ·rw [upd_no iO, put_ne hO]; exact fun q b e => ⟨(h1 q b e).1, Nat.lt_of_lt_of_le (h1 q b e).2 hb.size⟩
 ·rw [put_eq hz]; exact fun _ _ => ⟨_, rfl, Own.empty _ _ h0.size⟩
 ·rw [upd_no iF, put_ne hF]; exact fun q => by obtain ⟨A', c', e, r⟩ := h2 q; exact ⟨A', c', e, ((row_lt r).below hb).wide hap⟩
 ·rw [upd_no iO, upd_no iA, put_ne hO]; exact fun q z => by obtain ⟨A, c, e, r⟩ := h3 q z; exact ⟨A, c, e, r.later hb⟩
 ·rw [upd_no iC, put_ne hC]; exact fun q => by obtain ⟨A', c', e, r⟩ := h4 q; exact ⟨A', c', e, ((row_lt r).below hb).wide hap⟩
 ·rw [upd_no iA, put_ne hA]; exact fun q => by obtain ⟨A, c, e, r⟩ := h5 q; exact ⟨A, c, e, r.later hb⟩
include X in
/-- the numbers are copied -/
theorem JC.copy (h : JC M W p d Q mq S U KK A5 A6 B sF sE sO sC sA oF oE oO oC oA q a w) (hz : sO < a.tmps.size) (hE1 : q oE = true) (hq : q oO = false) (hqA : q oA = false) (hE : sE ≠ sO) (hF : sF ≠ sO) (hC : sC ≠ sO) (iE : Nat.beq oE oO = false) (iF : Nat.beq oF oO = false) (iC : Nat.beq oC oO = false) (iA : Nat.beq oA oO = false) (hl : U.length ≤ 100000) (k : Nat) :
  ∃ A A' c' w', a.tmps.getD sE undef = .slice A 0 0 ∧ (Builtin.append_ #[32, 32] 32 #[.slice A 0 0, .slice A5 U.length k]).run Tryz.prog w = .ok (.slice A' U.length c') w' ∧
   JC M W p d Q mq S U KK A5 A6 B sF sE sO sC sA oF oE oO oC oA (Inv4.upd q oO) (a.put (some sO) (.slice A' U.length c')) w' := by
 obtain ⟨h0, e1, h1, e2, h2, h3, h4, h5⟩ := h
 obtain ⟨A, ee, ho⟩ := e2 hE1 hq
 obtain ⟨A', c', w', hrun, ho', hg, hloc⟩ := run_append_at 32 PagerWithout.el_ints (c2 := k) ho h0.rU.row (PagerWithout.ints_one _) (by simp [intsV, maxLen]; omega) (by simp [intsV]; omega) h0.size
 rw [show (intsV []).length = 0 from rfl, PagerSame.intsV_len, Nat.zero_add] at hrun hloc
 rw [show (intsV []).length = 0 from rfl] at hg
 have t : Turn (fun b => (a.tmps.getD sE undef).ownBlock = some b ∧ B ≤ b) w w' := Turn.ofGrown hg fun j hj _ => ⟨by rw [ee]; exact hj, (ho.block j hj).1⟩
 have hat : ∀ b, Apt B sE sO oE oO q a b → ¬ ((a.tmps.getD sE undef).ownBlock = some b ∧ B ≤ b) := fun b hs z => hs.2.1 ⟨hE1, z.1⟩
 have hbk : ∀ b, (Value.slice A' U.length c').ownBlock = some b → B ≤ b ∧ b < w'.heap.size := fun b e => ho'.block b (by simpa [intsV] using e)
 have hap : ∀ b, Apt B sE sO oE oO q a b ∧ b < w.heap.size → Apt B sE sO oE oO (Inv4.upd q oO) (a.put (some sO) (.slice A' U.length c')) b := fun b hs => ⟨hs.1.1, fun z => by rw [upd_no iE, put_ne hE] at z; exact hs.1.2.1 z, fun z => by
  rw [put_eq hz] at z
  rcases hloc with hl | hl
  ·rw [hl] at z; exact hs.1.2.1 ⟨hE1, by rw [ee]; exact z.2⟩
  ·rw [hl] at z; have := Option.some.inj z.2; omega⟩
 refine ⟨A, A', c', w', ee, hrun, h0.turn X t (fun b hb => hb.2), ?_, ?_, ?_, ?_, ?_, ?_, ?_⟩
 ·rw [upd_no iE, put_ne hE]; exact fun q b e => ⟨(e1 q b e).1, Nat.lt_of_lt_of_le (e1 q b e).2 t.size⟩
 ·rw [put_eq hz]; exact fun _ b e => hbk b e
 ·rw [upd_yes]; exact fun _ z => by cases z
 ·rw [upd_no iF, put_ne hF]; exact fun q => by obtain ⟨A', c', e, r⟩ := h2 q; exact ⟨A', c', e, ((row_lt r).turn t fun b hb => hat b hb.1).wide hap⟩
 ·rw [put_eq hz]; exact fun _ _ => ⟨A', c', rfl, by simpa [intsV] using ho'⟩
 ·rw [upd_no iC, put_ne hC]; exact fun q => by obtain ⟨A', c', e, r⟩ := h4 q; exact ⟨A', c', e, ((row_lt r).turn t fun b hb => hat b hb.1).wide hap⟩
 ·rw [upd_no iA, hqA]; exact fun q => by cases q
include X in
/-- the chain behind the numbers -/
theorem JC.both (h : JC M W p d Q mq S U KK A5 A6 B sF sE sO sC sA oF oE oO oC oA q a w) (hz : sA < a.tmps.size) (hO1 : q oO = true) (hC1 : q oC = true) (hq : q oA = false) (hE : sE ≠ sA) (hO : sO ≠ sA) (hF : sF ≠ sA) (hC : sC ≠ sA) (iE : Nat.beq oE oA = false) (iO : Nat.beq oO oA = false) (iF : Nat.beq oF oA = false) (iC : Nat.beq oC oA = false) (hl : U.length + Q.ch.length ≤ 100000) :
  ∃ A c A2 c2 A' c' w', a.tmps.getD sO undef = .slice A U.length c ∧ a.tmps.getD sC undef = .slice A2 Q.ch.length c2 ∧ (Builtin.append_ #[32, 32] 32 #[.slice A U.length c, .slice A2 Q.ch.length c2]).run Tryz.prog w = .ok (.slice A' (U.length + Q.ch.length) c') w' ∧
   JC M W p d Q mq S U KK A5 A6 B sF sE sO sC sA oF oE oO oC oA (Inv4.upd q oA) (a.put (some sA) (.slice A' (U.length + Q.ch.length) c')) w' := by
 obtain ⟨h0, e1, h1, e2, h2, h3, h4, h5⟩ := h
 obtain ⟨A, c, ea, ho⟩ := h3 hO1 hq
 obtain ⟨A2, c2, eb, hr⟩ := h4 hC1
 obtain ⟨A', c', w', hrun, ho', hg⟩ := run_append_row (P := Tryz.prog) 32 PagerWithout.el_ints (c2 := c2) ho hr.row (PagerWithout.ints_one _) (by rw [PagerSame.intsV_len, PagerSame.intsV_len]; simp [maxLen]; omega) (by rw [PagerSame.intsV_len, PagerSame.intsV_len]; omega) h0.size
 rw [PagerSame.intsV_len, PagerSame.intsV_len] at hrun
 have t : Turn (fun b => (a.tmps.getD sO undef).ownBlock = some b ∧ B ≤ b) w w' := Turn.ofGrown hg fun j hj _ => ⟨by rw [ea]; rw [PagerSame.intsV_len] at hj; exact hj, (ho.block j hj).1⟩
 have hap : ∀ b, Apt B sE sO oE oO q a b → ¬ ((a.tmps.getD sO undef).ownBlock = some b ∧ B ≤ b) := fun b hs z => hs.2.2 ⟨hO1, z.1⟩
 refine ⟨A, c, A2, c2, A', c', w', ea, eb, hrun, h0.turn X t (fun b hb => hb.2), ?_, ?_, ?_, ?_, ?_, ?_, ?_⟩
 ·rw [upd_no iE, put_ne hE]; exact fun q b e => ⟨(e1 q b e).1, Nat.lt_of_lt_of_le (e1 q b e).2 t.size⟩
 ·rw [upd_no iO, put_ne hO]; exact fun q b e => ⟨(h1 q b e).1, Nat.lt_of_lt_of_le (h1 q b e).2 t.size⟩
 ·rw [upd_no iO, hO1]; exact fun _ z => by cases z
 ·rw [upd_no iF, put_ne hF, apt_same hE iE hO iO]; exact fun q => by obtain ⟨A, c, e, r⟩ := h2 q; exact ⟨A, c, e, r.turn t hap⟩
 ·rw [upd_yes]; exact fun _ z => by cases z
 ·rw [upd_no iC, put_ne hC, apt_same hE iE hO iO]; exact fun q => by obtain ⟨A, c, e, r⟩ := h4 q; exact ⟨A, c, e, r.turn t hap⟩
 ·rw [put_eq hz]; exact fun _ => ⟨A', c', rfl, ho'⟩
end
end Go.Proofs.YtpidnkfcccboaaaGreat.PagerJoin
