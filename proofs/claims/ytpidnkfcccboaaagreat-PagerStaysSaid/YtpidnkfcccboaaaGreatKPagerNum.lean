/- PagerPlain, PagerTold, PagerCov, PagerNum. -/
import Derived.Test.YtpidnkfcccboaaaGreatKFreeCov
import Derived.Test.YtpidnkfcccboaaaGreatKFreePages
import Derived.Test.YtpidnkfcccboaaaGreatKFreePlain2
import Derived.Test.YtpidnkfcccboaaaGreatKSuperPlumb
namespace Go.Proofs.YtpidnkfcccboaaaGreat.PagerPlain
open PagePlain FreePlain FreePlain2 FreeCellsOf SuperPlain

abbrev By := List UInt8
abbrev zs : By := List.replicate 256 0
/-- the disk's bound, its pages, what is read of each; what was told last; the free pages, the chain, the new pages, how many there are, the oldest epoch; the free pages as told -/
structure PS where
 most : Int
 len : Int
 rd : Int → By
 x : Sp
 fl : Fs
 ch : List Int
 nw : List Int
 pg : Int
 od : Int
 tf : Fs
def ks (l : Fs) : List Int := l.map (·.1)
def PS.there (P : PS) (no : Int) : Prop := 2 ≤ no ∧ no < P.pg ∧ no ∉ ks P.fl
instance (P : PS) (no : Int) : Decidable (P.there no) := inferInstanceAs (Decidable (_ ∧ _))
def PS.take (P : PS) : Option (PS × Int) := match first P.od P.fl with
 | (some no, l) => some ({ P with fl := l, nw := P.nw ++ [no] }, no)
 | (none, _) => if P.pg + 1 > P.most then none else some ({ P with len := max P.len (P.pg + 1), pg := P.pg + 1, nw := P.nw ++ [P.pg] }, P.pg)
def PS.put (P : PS) (q : Pg) : PS := { P with rd := fun p => if p = q.no then page q else P.rd p }
/-- a page that is made -/
def PS.of (P : PS) (kind link : Int) (cells : List ByteArray) (no : Int) : Pg := ⟨kind, no, P.x.ep + 1, link, cells⟩
def PS.new (P : PS) (kind link : Int) (cells : List ByteArray) : PS × Int × Int :=
 if err (P.of kind link cells 0) ≠ 0 then (P, 0, err (P.of kind link cells 0)) else match P.take with
 | none => (P, 0, 82)
 | some (Q, no) => (Q.put (P.of kind link cells no), no, 0)
def PS.drop (P : PS) (no : Int) : PS × Int :=
 if P.there no then (if no ∈ P.nw then { P with nw := P.nw.filter (· ≠ no), fl := ins no 0 P.fl } else { P with fl := ins no (P.x.ep + 1) P.fl }, 0) else (P, 81)
def PS.change (P : PS) (no kind link : Int) (cells : List ByteArray) : PS × Int × Int :=
 if P.there no then
  if no ∈ P.nw then if err (P.of kind link cells no) ≠ 0 then (P, 0, err (P.of kind link cells no)) else (P.put (P.of kind link cells no), no, 0)
  else match P.new kind link cells with
   | (Q, n, e) => if e ≠ 0 then (Q, 0, e) else ((Q.drop no).1, n, 0)
 else (P, 0, 81)
def PS.abort (P : PS) : PS := { P with pg := P.x.pages, fl := P.tf, nw := [] }
def takes : Nat → PS → List Int → PS × List Int × Bool
 | 0, P, c => (P, c, true)
 | f + 1, P, c => if 23 * c.length < P.fl.length then match P.take with
  | none => (P, c, false)
  | some (Q, no) => takes f Q (c ++ [no]) else (P, c, true)
def PS.freed (P : PS) : PS := { P with fl := P.ch.foldl (fun l c => ins c (P.x.ep + 1) l) P.fl }
/-- the cells of the chain's page i -/
def cellsAt (l : Fs) (i : Nat) : List ByteArray := ((texts l).drop (23 * i)).take 23
def chainPg (ep : Int) (c : List Int) (l : Fs) (i : Nat) : Pg := ⟨3, c.getD i 0, ep, c.getD (i + 1) 0, cellsAt l i⟩
/-- what is read behind a telling -/
def PS.told (P : PS) (c : List Int) (y : Sp) : Int → By := fun p =>
 if p = y.ep % 2 then sbytes y else match c.idxOf? p with
 | some i => page (chainPg y.ep c P.fl i)
 | none => P.rd p
def PS.commit (P : PS) (root : Int) : PS × Int :=
 if root ≠ 0 ∧ ¬ P.there root then (P, 81) else match takes (P.freed.fl.length + 1) P.freed [] with
 | (Q, _, false) => ({ P with len := Q.len }.abort, 82)
 | (Q, c, true) => let y : Sp := ⟨P.x.ep + 1, root, c.headD 0, Q.pg⟩
  ({ Q with rd := Q.told c y, x := y, ch := c, nw := [], od := y.ep, tf := Q.fl }, 0)
/-- an act -/
structure PA where
 kind : Int
 of : Int
 link : Int
 no : Int
 root : Int
 ep : Int
 cells : List ByteArray
def act (P : PS) (a : PA) : PS × Int × Int :=
 if a.kind = 0 then P.new a.of a.link a.cells
 else if a.kind = 1 then P.change a.no a.of a.link a.cells
 else if a.kind = 2 then ((P.drop a.no).1, 0, (P.drop a.no).2)
 else if a.kind = 3 then ((P.commit a.root).1, 0, (P.commit a.root).2)
 else if a.kind = 4 then (P.abort, 0, 0)
 else if a.kind = 5 then ({ P with od := min a.ep P.x.ep }, 0, 0)
 else (P, 0, 0)
/-- the pager of a fresh disk -/
def S0 : Sp := ⟨0, 0, 0, 2⟩
def S1 : Sp := ⟨1, 0, 0, 2⟩
def freshP (most : Int) : PS := ⟨most, 2, fun p => if p = 0 then sbytes S0 else if p = 1 then sbytes S1 else zs, S1, [], [], [], 2, 1, []⟩

/-! numbers of a list -/
theorem mem_ks {l : Fs} {n : Int} : n ∈ ks l ↔ ∃ e, (n, e) ∈ l := by simp [ks]
theorem ks_of {l : Fs} {q : Int × Int} (h : q ∈ l) : q.1 ∈ ks l := mem_ks.2 ⟨q.2, h⟩
theorem rise_nodup {l : Fs} (h : Rise l) : (ks l).Nodup := List.pairwise_map.2 (h.imp fun hab e => by omega)
theorem first_perm {o p : Int} : ∀ {l l' : Fs}, first o l = (some p, l') → ∃ e, e ≤ o ∧ l.Perm ((p, e) :: l')
 | [], _, h => by simp [first] at h
 | q :: l, l', h => by
  by_cases h1 : q.2 ≤ o
  ·simp only [first, h1, if_true, Prod.mk.injEq, Option.some.injEq] at h
   obtain ⟨rfl, rfl⟩ := h
   exact ⟨q.2, h1, List.Perm.refl _⟩
  ·simp only [first, h1, if_false, Prod.mk.injEq] at h
   obtain ⟨h2, rfl⟩ := h
   obtain ⟨e, he, hp⟩ := first_perm (l := l) (l' := (first o l).2) (Prod.ext h2 rfl)
   exact ⟨e, he, (hp.cons q).trans (List.Perm.swap _ _ _)⟩
theorem ks_perm {l m : Fs} (h : l.Perm m) : (ks l).Perm (ks m) := h.map _
theorem ins_perm {g e : Int} : ∀ {l : Fs}, g ∉ ks l → (ks (ins g e l)).Perm (g :: ks l)
 | [], _ => List.Perm.refl _
 | p :: l, h => by
  simp only [ins]
  split
  ·have h2 : g ∉ ks l := fun q => h (by simp only [ks, List.map_cons, List.mem_cons]; exact Or.inr q)
   exact ((ins_perm h2).cons p.1).trans (List.Perm.swap _ _ _)
  ·split
   ·rename_i he
    exact absurd (by simp [ks, he]) h
   ·exact List.Perm.refl _
theorem ins_ks {g e n : Int} : ∀ {l : Fs}, n ∈ ks (ins g e l) ↔ n = g ∨ n ∈ ks l
 | [] => by simp [ins, ks]
 | p :: l => by
  have ih := ins_ks (g := g) (e := e) (n := n) (l := l)
  simp only [ins]
  split
  ·simp only [ks, List.map_cons, List.mem_cons] at ih ⊢
   rw [ih]
   constructor <;> rintro (h | h | h) <;> simp [h]
  ·split
   ·rename_i h1
    simp only [ks, List.map_cons, List.mem_cons, h1]
    constructor
    ·rintro (h | h) <;> simp [h]
    ·rintro (h | h | h) <;> simp [h]
   ·simp [ks]
/-! what holds at all times -/
structure Inv (P : PS) : Prop where
 len : P.pg ≤ P.len
 most : P.len ≤ P.most
 m2 : P.most ≤ 4096
 ep : 1 ≤ P.x.ep
 xp : 2 ≤ P.x.pages
 xg : P.x.pages ≤ P.pg
 rise : Rise P.fl
 fr : ∀ q ∈ P.fl, 2 ≤ q.1 ∧ q.1 < P.pg ∧ 0 ≤ q.2 ∧ q.2 ≤ P.x.ep + 1
 fu : ∀ q ∈ P.fl, q.2 ≤ P.x.ep → q.1 ∉ P.ch ∧ (P.x.pages ≤ q.1 ∨ q.1 ∈ ks P.tf)
 nr : ∀ n ∈ P.nw, 2 ≤ n ∧ n < P.pg ∧ n ∉ ks P.fl ∧ n ∉ P.ch ∧ (P.x.pages ≤ n ∨ n ∈ ks P.tf)
 nd : P.nw.Nodup
 od : P.od ≤ P.x.ep
 trise : Rise P.tf
 tr : ∀ q ∈ P.tf, 2 ≤ q.1 ∧ q.1 < P.x.pages ∧ 0 ≤ q.2 ∧ q.2 ≤ P.x.ep
 tc : ∀ c ∈ P.ch, 2 ≤ c ∧ c < P.x.pages ∧ c ∉ ks P.tf
 cn : P.ch.Nodup
 rz : ∀ p, P.len ≤ p → P.rd p = zs
/-- what a taking leaves as it was -/
structure Kept (P Q : PS) : Prop where
 most : Q.most = P.most
 x : Q.x = P.x
 ch : Q.ch = P.ch
 tf : Q.tf = P.tf
 od : Q.od = P.od
 rd : Q.rd = P.rd
 len : P.len ≤ Q.len
 pg : P.pg ≤ Q.pg
theorem Kept.refl (P : PS) : Kept P P := ⟨rfl, rfl, rfl, rfl, rfl, rfl, Int.le_refl _, Int.le_refl _⟩
theorem Kept.trans {P Q R : PS} (h : Kept P Q) (k : Kept Q R) : Kept P R :=
 ⟨k.most.trans h.most, k.x.trans h.x, k.ch.trans h.ch, k.tf.trans h.tf, k.od.trans h.od, k.rd.trans h.rd, Int.le_trans h.len k.len, Int.le_trans h.pg k.pg⟩
/-- a page taken -/
structure Taken (P Q : PS) (no : Int) : Prop where
 kept : Kept P Q
 inv : Inv Q
 nw : Q.nw = P.nw ++ [no]
 new : no ∉ P.nw
 pg1 : Q.pg ≤ P.pg + 1
 how : ((ks P.fl).Perm (no :: ks Q.fl) ∧ Q.pg = P.pg) ∨ (Q.fl = P.fl ∧ no = P.pg ∧ Q.pg = P.pg + 1)
 sub : ∀ q ∈ Q.fl, q ∈ P.fl
theorem take_none {P : PS} (h : P.take = none) : P.most < P.pg + 1 ∧ first P.od P.fl = (none, P.fl) := by
 unfold PS.take at h
 split at h
 ·cases h
 ·rename_i l hf
  split at h
  ·rename_i hm
   refine ⟨by omega, ?_⟩
   have h1 : (first P.od P.fl).1 = none := by rw [hf]
   exact Prod.ext h1 (first_no h1).2
  ·cases h
theorem take_some {P Q : PS} {no : Int} (hi : Inv P) (h : P.take = some (Q, no)) : Taken P Q no := by
 obtain ⟨i1, i2, i3, i4, i5, i6, i7, i8, i9, i10, i11, i12, i13, i14, i15, i16, i17⟩ := hi
 unfold PS.take at h
 split at h
 ·rename_i n l hf
  injection h with h
  injection h with h1 h2
  subst h1 h2
  obtain ⟨e, he, hp⟩ := first_perm hf
  have hkp := ks_perm hp
  have hnd : (n :: ks l).Nodup := hkp.nodup_iff.1 (rise_nodup i7)
  have hsub : ∀ q ∈ l, q ∈ P.fl := fun q hq => hp.mem_iff.2 (List.mem_cons_of_mem _ hq)
  have hmem : (n, e) ∈ P.fl := hp.mem_iff.2 (by simp)
  have hn := i8 _ hmem
  have hu := i9 _ hmem (by simp only; omega)
  have hr : Rise l := by
   have := first_sub P.od P.fl
   rw [hf] at this
   exact List.Pairwise.sublist this i7
  have hnn : n ∉ P.nw := fun q => (i10 n q).2.2.1 (ks_of hmem)
  refine ⟨⟨rfl, rfl, rfl, rfl, rfl, rfl, Int.le_refl _, Int.le_refl _⟩, ⟨i1, i2, i3, i4, i5, i6, hr, fun q hq => i8 q (hsub q hq), fun q hq => i9 q (hsub q hq), ?_, ?_, i12, i13, i14, i15, i16, i17⟩, rfl, hnn, by simp only; omega, Or.inl ⟨hkp, rfl⟩, hsub⟩
  ·intro m hm
   rcases List.mem_append.1 hm with hm | hm
   ·obtain ⟨a, b, c, d⟩ := i10 m hm
    exact ⟨a, b, fun q => c (hkp.mem_iff.2 (List.mem_cons_of_mem _ q)), d⟩
   ·obtain rfl := List.mem_singleton.1 hm
    exact ⟨hn.1, hn.2.1, (List.nodup_cons.1 hnd).1, hu⟩
  ·exact List.nodup_append.2 ⟨i11, by simp, fun a ha b hb => by rw [List.mem_singleton.1 hb]; rintro rfl; exact hnn ha⟩
 ·rename_i l hf
  split at h
  ·cases h
  ·rename_i hm
   injection h with h
   injection h with h1 h2
   subst h1 h2
   have hnn : P.pg ∉ P.nw := fun q => by have := (i10 _ q).2.1; omega
   have hnk : P.pg ∉ ks P.fl := fun q => by
    obtain ⟨e, he⟩ := mem_ks.1 q
    have := (i8 _ he).2.1
    simp only at this
    omega
   refine ⟨⟨rfl, rfl, rfl, rfl, rfl, rfl, by simp only; omega, by simp only; omega⟩, ⟨by simp only; omega, by simp only; omega, i3, i4, i5, by simp only; omega, i7, fun q hq => ?_, i9, ?_, ?_, i12, i13, i14, i15, i16, fun p hp => i17 p (by simp only at hp; omega)⟩, rfl, hnn, by simp only; omega, Or.inr ⟨rfl, rfl, rfl⟩, fun q hq => hq⟩
   ·have := i8 q hq
    simp only
    omega
   ·intro m hm
    rcases List.mem_append.1 hm with hm | hm
    ·obtain ⟨a, b, c, d⟩ := i10 m hm
     exact ⟨a, by simp only; omega, c, d⟩
    ·obtain rfl := List.mem_singleton.1 hm
     refine ⟨by omega, by simp only; omega, hnk, fun q => ?_, Or.inl i6⟩
     have := i15 _ q
     omega
   ·exact List.nodup_append.2 ⟨i11, by simp, fun a ha b hb => by rw [List.mem_singleton.1 hb]; rintro rfl; exact hnn ha⟩
theorem Inv.put {P : PS} (h : Inv P) (q : Pg) (hq : q.no < P.len) : Inv (P.put q) := ⟨h.len, h.most, h.m2, h.ep, h.xp, h.xg, h.rise, h.fr, h.fu, h.nr, h.nd, h.od, h.trise, h.tr, h.tc, h.cn, fun p hp => by
 have hp' : P.len ≤ p := hp
 show (if p = q.no then page q else P.rd p) = zs
 rw [if_neg (by omega)]
 exact h.rz p hp'⟩
theorem Inv.old {P : PS} (h : Inv P) {e : Int} (he : e ≤ P.x.ep) : Inv { P with od := e } := ⟨h.len, h.most, h.m2, h.ep, h.xp, h.xg, h.rise, h.fr, h.fu, h.nr, h.nd, he, h.trise, h.tr, h.tc, h.cn, h.rz⟩
theorem Inv.abort {P : PS} (h : Inv P) : Inv P.abort :=
 ⟨by have := h.len; have := h.xg; simp only [PS.abort]; omega, h.most, h.m2, h.ep, h.xp, Int.le_refl _, h.trise, fun q hq => by have := h.tr q hq; simp only [PS.abort]; omega,
  fun q hq _ => ⟨fun z => (h.tc _ z).2.2 (ks_of hq), Or.inr (ks_of hq)⟩, fun n hn => (by cases hn), List.nodup_nil, h.od, h.trise, h.tr, h.tc, h.cn, h.rz⟩
theorem Inv.longer {P : PS} (h : Inv P) {n : Int} (h1 : P.len ≤ n) (h2 : n ≤ P.most) : Inv { P with len := n } :=
 ⟨by have := h.len; simp only; omega, h2, h.m2, h.ep, h.xp, h.xg, h.rise, h.fr, h.fu, h.nr, h.nd, h.od, h.trise, h.tr, h.tc, h.cn, fun p hp => h.rz p (Int.le_trans h1 hp)⟩
theorem Inv.drop {P : PS} (h : Inv P) (no : Int) : Inv (P.drop no).1 := by
 obtain ⟨i1, i2, i3, i4, i5, i6, i7, i8, i9, i10, i11, i12, i13, i14, i15, i16, i17⟩ := h
 unfold PS.drop
 by_cases ht : P.there no
 rotate_left
 ·rw [if_neg ht]; exact ⟨i1, i2, i3, i4, i5, i6, i7, i8, i9, i10, i11, i12, i13, i14, i15, i16, i17⟩
 rw [if_pos ht]
 obtain ⟨t1, t2, t3⟩ := ht
 by_cases hn : no ∈ P.nw
 ·rw [if_pos hn]
  obtain ⟨n1, n2, n3, n4, n5⟩ := i10 no hn
  refine ⟨i1, i2, i3, i4, i5, i6, rise_ins _ _ i7, fun q hq => ?_, fun q hq he => ?_, fun m hm => ?_, List.Nodup.sublist List.filter_sublist i11, i12, i13, i14, i15, i16, i17⟩
  ·rcases ins_mem hq with rfl | hq
   ·simp only; omega
   ·exact i8 q hq
  ·rcases ins_mem hq with rfl | hq
   ·exact ⟨n4, n5⟩
   ·exact i9 q hq he
  ·obtain ⟨hm, hne⟩ := List.mem_filter.1 hm
   obtain ⟨a, b, c, d⟩ := i10 m hm
   refine ⟨a, b, fun z => ?_, d⟩
   rcases ins_ks.1 z with rfl | z
   ·simp at hne
   ·exact c z
 ·rw [if_neg hn]
  refine ⟨i1, i2, i3, i4, i5, i6, rise_ins _ _ i7, fun q hq => ?_, fun q hq he => ?_, fun m hm => ?_, i11, i12, i13, i14, i15, i16, i17⟩
  ·rcases ins_mem hq with rfl | hq
   ·simp only; omega
   ·exact i8 q hq
  ·rcases ins_mem hq with rfl | hq
   ·simp only at he; omega
   ·exact i9 q hq he
  ·obtain ⟨a, b, c, d⟩ := i10 m hm
   refine ⟨a, b, fun z => ?_, d⟩
   rcases ins_ks.1 z with rfl | z
   ·exact hn hm
   ·exact c z
theorem new_cases (P : PS) (kind link : Int) (cells : List ByteArray) : (∃ e, e ≠ 0 ∧ P.new kind link cells = (P, 0, e)) ∨ ∃ Q no, P.take = some (Q, no) ∧ err (P.of kind link cells 0) = 0 ∧ P.new kind link cells = (Q.put (P.of kind link cells no), no, 0) := by
 unfold PS.new
 by_cases he : err (P.of kind link cells 0) = 0
 ·rw [if_neg (fun z => z he)]
  cases ht : P.take with
  | none => exact Or.inl ⟨82, by omega, rfl⟩
  | some r => obtain ⟨Q, no⟩ := r; exact Or.inr ⟨Q, no, rfl, he, rfl⟩
 ·rw [if_pos he]; exact Or.inl ⟨_, he, rfl⟩
theorem Inv.new {P : PS} (h : Inv P) (kind link : Int) (cells : List ByteArray) : Inv (P.new kind link cells).1 := by
 rcases new_cases P kind link cells with ⟨e, _, hr⟩ | ⟨Q, no, ht, _, hr⟩
 ·rw [hr]; exact h
 ·rw [hr]
  have t := take_some h ht
  refine t.inv.put _ ?_
  have h1 := (t.inv.nr no (by rw [t.nw]; simp)).2.1
  have h2 := t.inv.len
  show no < Q.len
  omega
theorem Inv.change {P : PS} (h : Inv P) (no kind link : Int) (cells : List ByteArray) : Inv (P.change no kind link cells).1 := by
 unfold PS.change
 split
 ·split
  ·rename_i hn
   split
   ·exact h
   ·refine h.put _ ?_
    have h1 := (h.nr no hn).2.1
    have h2 := h.len
    show no < P.len
    omega
  ·have hn := h.new kind link cells
   generalize P.new kind link cells = r at hn
   obtain ⟨Q, n, e⟩ := r
   simp only at hn ⊢
   split
   ·exact hn
   ·exact hn.drop no
 ·exact h
theorem freed_mem (e : Int) : ∀ (c : List Int) (l : Fs) (q : Int × Int), q ∈ c.foldl (fun l n => ins n e l) l → (q.1 ∈ c ∧ q.2 = e) ∨ q ∈ l
 | [], _, _, h => Or.inr h
 | n :: c, l, q, h => by
  rcases freed_mem e c _ q h with ⟨h1, h2⟩ | h
  ·exact Or.inl ⟨List.mem_cons_of_mem _ h1, h2⟩
  ·rcases ins_mem h with rfl | h
   ·exact Or.inl ⟨by simp, rfl⟩
   ·exact Or.inr h
theorem freed_ks (e : Int) (m : Int) : ∀ (c : List Int) (l : Fs), m ∈ ks (c.foldl (fun l n => ins n e l) l) ↔ m ∈ c ∨ m ∈ ks l
 | [], l => by simp
 | n :: c, l => by
  rw [List.foldl_cons, freed_ks e m c, ins_ks, List.mem_cons]
  constructor
  ·rintro (h | h | h) <;> simp [h]
  ·rintro ((h | h) | h) <;> simp [h]
theorem freed_rise (e : Int) : ∀ (c : List Int) (l : Fs), Rise l → Rise (c.foldl (fun l n => ins n e l) l)
 | [], _, h => h
 | _ :: c, _, h => freed_rise e c _ (rise_ins _ _ h)
theorem Inv.freed {P : PS} (h : Inv P) : Inv P.freed := by
 obtain ⟨i1, i2, i3, i4, i5, i6, i7, i8, i9, i10, i11, i12, i13, i14, i15, i16, i17⟩ := h
 refine ⟨i1, i2, i3, i4, i5, i6, freed_rise _ _ _ i7, fun q hq => ?_, fun q hq he => ?_, fun m hm => ?_, i11, i12, i13, i14, i15, i16, i17⟩
 ·rcases freed_mem _ _ _ _ hq with ⟨h1, h2⟩ | hq
  ·have := i15 _ h1
   show 2 ≤ q.1 ∧ q.1 < P.pg ∧ 0 ≤ q.2 ∧ q.2 ≤ P.x.ep + 1
   omega
  ·exact i8 q hq
 ·rcases freed_mem _ _ _ _ hq with ⟨h1, h2⟩ | hq
  ·have he' : q.2 ≤ P.x.ep := he
   omega
  ·exact i9 q hq he
 ·obtain ⟨a, b, c, d, e⟩ := i10 m hm
  refine ⟨a, b, fun z => ?_, d, e⟩
  rcases (freed_ks _ _ _ _).1 z with z | z
  ·exact d z
  ·exact c z
end Go.Proofs.YtpidnkfcccboaaaGreat.PagerPlain
namespace Go.Proofs.YtpidnkfcccboaaaGreat.PagerTold
open PagePlain FreePlain FreePlain2 FreeCellsOf SuperPlain PagerPlain

theorem getD_of {α : Type} {l : List α} {i : Nat} (h : i < l.length) (d : α) : l.getD i d = l[i] := by simp [List.getD, h]
theorem idx_of {c : List Int} (hn : c.Nodup) {i : Nat} (hi : i < c.length) : c.idxOf? c[i] = some i := by
 rw [List.idxOf?_eq_some_iff]
 refine ⟨hi, by simp, fun j hj => ?_⟩
 have h := List.pairwise_iff_getElem.1 hn j i (by omega) hi hj
 simpa using h
theorem idx_no {c : List Int} {n : Int} (h : n ∉ c) : c.idxOf? n = none := List.idxOf?_eq_none_iff.2 h
/-- so many pages taken -/
structure Many (P Q : PS) (c d : List Int) : Prop where
 kept : Kept P Q
 inv : Inv Q
 out : ∃ e, d = c ++ e ∧ Q.nw = P.nw ++ e
 sub : ∀ q ∈ Q.fl, q ∈ P.fl
theorem takes_many : ∀ (f : Nat) {P Q : PS} {c d : List Int} {b : Bool}, Inv P → takes f P c = (Q, d, b) → Many P Q c d
 | 0, P, Q, c, d, b, hi, h => by
  simp only [takes, Prod.mk.injEq] at h
  obtain ⟨rfl, rfl, rfl⟩ := h
  exact ⟨Kept.refl _, hi, ⟨[], by simp, by simp⟩, fun q hq => hq⟩
 | f + 1, P, Q, c, d, b, hi, h => by
  simp only [takes] at h
  split at h
  ·split at h
   ·simp only [Prod.mk.injEq] at h
    obtain ⟨rfl, rfl, rfl⟩ := h
    exact ⟨Kept.refl _, hi, ⟨[], by simp, by simp⟩, fun q hq => hq⟩
   ·rename_i R no ht
    have t := take_some hi ht
    have m := takes_many f t.inv h
    obtain ⟨e, h1, h2⟩ := m.out
    exact ⟨t.kept.trans m.kept, m.inv, ⟨no :: e, by simp [h1], by rw [h2, t.nw]; simp⟩, fun q hq => t.sub q (m.sub q hq)⟩
  ·simp only [Prod.mk.injEq] at h
   obtain ⟨rfl, rfl, rfl⟩ := h
   exact ⟨Kept.refl _, hi, ⟨[], by simp, by simp⟩, fun q hq => hq⟩
theorem takes_fit : ∀ (f : Nat) {P Q : PS} {c d : List Int}, P.fl.length < 23 * c.length + 23 * f + 1 → Inv P → takes f P c = (Q, d, true) → Q.fl.length ≤ 23 * d.length
 | 0, P, Q, c, d, hf, hi, h => by
  simp only [takes, Prod.mk.injEq] at h
  obtain ⟨rfl, rfl, _⟩ := h
  omega
 | f + 1, P, Q, c, d, hf, hi, h => by
  simp only [takes] at h
  split at h
  ·split at h
   ·simp at h
   ·rename_i R no ht
    have t := take_some hi ht
    refine takes_fit f ?_ t.inv h
    have hl : R.fl.length ≤ P.fl.length := by
     rcases t.how with ⟨hp, _⟩ | ⟨e, _⟩
     ·have := hp.length_eq
      simp [ks] at this
      omega
     ·rw [e]; exact Nat.le_refl _
    rw [List.length_append]
    simp only [List.length_cons, List.length_nil]
    omega
  ·simp only [Prod.mk.injEq] at h
   obtain ⟨rfl, rfl, _⟩ := h
   omega
/-- what a telling does, if there is room -/
structure Com (P Q : PS) (root : Int) (R : PS) (c : List Int) : Prop where
 r : root = 0 ∨ P.there root
 many : Many P.freed R [] c
 fit : R.fl.length ≤ 23 * c.length
 eq : Q = { R with rd := R.told c ⟨P.x.ep + 1, root, c.headD 0, R.pg⟩, x := ⟨P.x.ep + 1, root, c.headD 0, R.pg⟩, ch := c, nw := [], od := P.x.ep + 1, tf := R.fl }
theorem commit_cases {P : PS} (hi : Inv P) (root : Int) :
  (¬ (root = 0 ∨ P.there root) ∧ P.commit root = (P, 81)) ∨
  ((root = 0 ∨ P.there root) ∧ ∃ n, P.len ≤ n ∧ n ≤ P.most ∧ P.commit root = ({ P with len := n }.abort, 82)) ∨
  ∃ Q R c, P.commit root = (Q, 0) ∧ Com P Q root R c := by
 by_cases hr : root = 0 ∨ P.there root
 ·have hc : ¬ (root ≠ 0 ∧ ¬ P.there root) := fun ⟨a, b⟩ => hr.elim a b
  obtain ⟨R, c, b, ht⟩ : ∃ R c b, takes (P.freed.fl.length + 1) P.freed [] = (R, c, b) := ⟨_, _, _, rfl⟩
  have m := takes_many _ hi.freed ht
  have hcm : P.commit root = match (R, c, b) with
   | (Q, _, false) => ({ P with len := Q.len }.abort, 82)
   | (Q, c, true) => let y : Sp := ⟨P.x.ep + 1, root, c.headD 0, Q.pg⟩
    ({ Q with rd := Q.told c y, x := y, ch := c, nw := [], od := y.ep, tf := Q.fl }, 0) := by
   unfold PS.commit
   rw [if_neg hc, ht]
   all_goals rfl
  cases b with
  | false => exact Or.inr (Or.inl ⟨hr, R.len, m.kept.len, by have := m.inv.most; rw [m.kept.most] at this; exact this, hcm⟩)
  | true => exact Or.inr (Or.inr ⟨_, R, c, hcm, hr, m, takes_fit _ (by simp; omega) hi.freed ht, rfl⟩)
 ·have hc : root ≠ 0 ∧ ¬ P.there root := ⟨fun h => hr (Or.inl h), fun h => hr (Or.inr h)⟩
  exact Or.inl ⟨hr, by unfold PS.commit; rw [if_pos hc]⟩
theorem Com.chain {P Q R : PS} {root : Int} {c : List Int} (h : Com P Q root R c) (_ : Inv P) : c.Nodup ∧ ∀ n ∈ c, 2 ≤ n ∧ n < R.pg ∧ n ∉ ks R.fl ∧ n ∉ P.ch := by
 obtain ⟨e, h1, h2⟩ := h.many.out
 have h1 : c = e := h1
 subst h1
 have hnd := h.many.inv.nd
 rw [h2] at hnd
 refine ⟨(List.nodup_append.1 hnd).2.1, fun n hn => ?_⟩
 obtain ⟨a, b, d, f, _⟩ := h.many.inv.nr n (by rw [h2]; exact List.mem_append.2 (Or.inr hn))
 rw [h.many.kept.ch] at f
 exact ⟨a, b, d, f⟩
theorem told_rest {R : PS} {c : List Int} {y : Sp} {p : Int} (h1 : p ≠ y.ep % 2) (h2 : p ∉ c) : R.told c y p = R.rd p := by
 unfold PS.told
 rw [if_neg h1, idx_no h2]
theorem told_slot {R : PS} {c : List Int} {y : Sp} : R.told c y (y.ep % 2) = sbytes y := by
 unfold PS.told
 rw [if_pos rfl]
theorem told_chain {R : PS} {c : List Int} {y : Sp} (hn : c.Nodup) (h2 : ∀ n ∈ c, 2 ≤ n) {i : Nat} (hi : i < c.length) : R.told c y c[i] = page (chainPg y.ep c R.fl i) := by
 unfold PS.told
 have := h2 c[i] (List.getElem_mem hi)
 rw [if_neg (by omega), idx_of hn hi]
theorem Com.inv {P Q R : PS} {root : Int} {c : List Int} (h : Com P Q root R c) (hi : Inv P) : Inv Q := by
 obtain ⟨hn, hc⟩ := h.chain hi
 obtain ⟨i1, i2, i3, i4, i5, i6, i7, i8, i9, i10, i11, i12, i13, i14, i15, i16, i17⟩ := h.many.inv
 have hx : R.x = P.x := h.many.kept.x
 rw [h.eq]
 refine ⟨i1, i2, i3, by have := hi.ep; simp only; omega, by simp only; rw [hx] at i5 i6; omega, Int.le_refl _, i7, fun q hq => ?_, fun q hq _ => ⟨fun z => (hc _ z).2.2.1 (ks_of hq), Or.inr (ks_of hq)⟩,
  fun m hm => (by cases hm), List.nodup_nil, Int.le_refl _, i7, fun q hq => ?_, fun n hn => ⟨(hc n hn).1, (hc n hn).2.1, (hc n hn).2.2.1⟩, hn, fun p hp => ?_⟩
 ·have := i8 q hq
  rw [hx] at this
  simp only
  omega
 ·have := i8 q hq
  rw [hx] at this
  simp only
  omega
 ·have hp' : R.len ≤ p := hp
  show R.told c _ p = zs
  rw [told_rest (by rw [hx] at i5 i6; simp only; omega) fun z => by have := (hc p z).2.1; omega]
  exact i17 p hp'
theorem Inv.commit {P : PS} (h : Inv P) (root : Int) : Inv (P.commit root).1 := by
 rcases commit_cases h root with ⟨_, e⟩ | ⟨_, n, h1, h2, e⟩ | ⟨Q, R, c, e, hc⟩
 ·rw [e]; exact h
 ·rw [e]; exact (h.longer h1 h2).abort
 ·rw [e]; exact hc.inv h
theorem Inv.act {P : PS} (h : Inv P) (a : PA) : Inv (act P a).1 := by
 unfold PagerPlain.act
 split
 ·exact h.new _ _ _
 split
 ·exact h.change _ _ _ _
 split
 ·exact h.drop _
 split
 ·exact Inv.commit h _
 split
 ·exact h.abort
 split
 ·exact h.old (by omega)
 ·exact h
theorem inv_fresh {m : Int} (h1 : 2 ≤ m) (h2 : m ≤ 4096) : Inv (freshP m) := by
 refine ⟨Int.le_refl _, h1, h2, Int.le_refl _, Int.le_refl _, Int.le_refl _, List.Pairwise.nil, ?_, ?_, ?_, List.nodup_nil, Int.le_refl _, List.Pairwise.nil, ?_, ?_, List.nodup_nil, fun p hp => ?_⟩
 ·intro q hq; cases hq
 ·intro q hq; cases hq
 ·intro q hq; cases hq
 ·intro q hq; cases hq
 ·intro q hq; cases hq
 ·have hp' : (2 : Int) ≤ p := hp
  show (if p = 0 then _ else if p = 1 then _ else zs) = zs
  rw [if_neg (by omega), if_neg (by omega)]

/-! acts that tell nothing -/
/-- what was told is as it was -/
structure Still (P Q : PS) : Prop where
 most : Q.most = P.most
 x : Q.x = P.x
 ch : Q.ch = P.ch
 tf : Q.tf = P.tf
 rd : ∀ p, p < P.x.pages → p ∉ ks P.tf → Q.rd p = P.rd p
 low : ∀ p, p < 2 ∨ p ∈ P.ch → Q.rd p = P.rd p
theorem Still.refl (P : PS) : Still P P := ⟨rfl, rfl, rfl, rfl, fun _ _ _ => rfl, fun _ _ => rfl⟩
theorem Still.trans {P Q R : PS} (h : Still P Q) (k : Still Q R) : Still P R :=
 ⟨k.most.trans h.most, k.x.trans h.x, k.ch.trans h.ch, k.tf.trans h.tf, fun p h1 h2 => (k.rd p (by rw [h.x]; exact h1) (by rw [h.tf]; exact h2)).trans (h.rd p h1 h2), fun p hp => (k.low p (by rw [h.ch]; exact hp)).trans (h.low p hp)⟩
theorem Kept.still {P Q : PS} (h : Kept P Q) : Still P Q := ⟨h.most, h.x, h.ch, h.tf, fun _ _ _ => by rw [h.rd], fun _ _ => by rw [h.rd]⟩
theorem still_put {P : PS} (h : Inv P) (q : Pg) (hq : q.no ∈ P.nw) : Still P (P.put q) := by
 obtain ⟨a, _, _, d, e⟩ := h.nr _ hq
 refine ⟨rfl, rfl, rfl, rfl, fun p h1 h2 => ?_, fun p hp => ?_⟩
 ·show (if p = q.no then _ else _) = _
  rw [if_neg]
  rintro rfl
  rcases e with e | e
  ·omega
  ·exact h2 e
 ·show (if p = q.no then _ else _) = _
  rw [if_neg]
  rintro rfl
  rcases hp with hp | hp
  ·omega
  ·exact d hp
theorem still_drop (P : PS) (no : Int) : Still P (P.drop no).1 := by
 unfold PS.drop
 split
 ·split
  ·exact ⟨rfl, rfl, rfl, rfl, fun _ _ _ => rfl, fun _ _ => rfl⟩
  ·exact ⟨rfl, rfl, rfl, rfl, fun _ _ _ => rfl, fun _ _ => rfl⟩
 ·exact Still.refl _
theorem still_new {P : PS} (h : Inv P) (kind link : Int) (cells : List ByteArray) : Still P (P.new kind link cells).1 := by
 rcases new_cases P kind link cells with ⟨e, _, hr⟩ | ⟨Q, no, ht, _, hr⟩
 ·rw [hr]; exact Still.refl _
 ·rw [hr]
  have t := take_some h ht
  exact (Kept.still t.kept).trans (still_put t.inv _ (by rw [t.nw]; show no ∈ _; simp))
theorem still_change {P : PS} (h : Inv P) (no kind link : Int) (cells : List ByteArray) : Still P (P.change no kind link cells).1 := by
 unfold PS.change
 split
 ·split
  ·rename_i hn
   split
   ·exact Still.refl _
   ·exact still_put h _ hn
  ·have hn := still_new h kind link cells
   generalize P.new kind link cells = r at hn
   obtain ⟨Q, n, e⟩ := r
   simp only at hn ⊢
   split
   ·exact hn
   ·exact hn.trans (still_drop _ _)
 ·exact Still.refl _
theorem still_act {P : PS} (h : Inv P) (a : PA) (hk : a.kind ≠ 3) : Still P (act P a).1 := by
 unfold PagerPlain.act
 split
 ·exact still_new h _ _ _
 split
 ·exact still_change h _ _ _ _
 split
 ·exact still_drop _ _
 split
 ·exact ⟨rfl, rfl, rfl, rfl, fun _ _ _ => rfl, fun _ _ => rfl⟩
 split
 ·exact ⟨rfl, rfl, rfl, rfl, fun _ _ _ => rfl, fun _ _ => rfl⟩
 ·exact Still.refl _

/-! what the disk tells -/
structure Told (P : PS) : Prop where
 ok : Ok P.x
 slot : P.rd (P.x.ep % 2) = sbytes P.x
 other : ∃ y, Ok y ∧ y.ep = P.x.ep - 1 ∧ P.rd ((P.x.ep + 1) % 2) = sbytes y
 free : P.x.free = P.ch.headD 0
 chain : ∀ i, i < P.ch.length → P.rd (P.ch.getD i 0) = page (chainPg P.x.ep P.ch P.tf i)
 fit : P.tf.length ≤ 23 * P.ch.length
theorem Told.still {P Q : PS} (h : Told P) (k : Still P Q) : Told Q := by
 obtain ⟨y, y1, y2, y3⟩ := h.other
 refine ⟨by rw [k.x]; exact h.ok, by rw [k.x, k.low _ (Or.inl (by omega))]; exact h.slot, ⟨y, y1, by rw [k.x]; exact y2, by rw [k.x, k.low _ (Or.inl (by omega))]; exact y3⟩, by rw [k.x, k.ch]; exact h.free, fun i hi => ?_, by rw [k.tf, k.ch]; exact h.fit⟩
 rw [k.ch] at hi ⊢
 rw [k.low _ (Or.inr (by rw [getD_of hi]; exact List.getElem_mem hi)), k.x, k.tf]
 exact h.chain i hi
theorem Told.long {P : PS} (h : Told P) (n : Int) : Told { P with len := n }.abort := ⟨h.ok, h.slot, h.other, h.free, h.chain, h.fit⟩
theorem Com.told {P Q R : PS} {root : Int} {c : List Int} (h : Com P Q root R c) (hi : Inv P) (ht : Told P) (hep : P.x.ep ≤ 4000000000) : Told Q := by
 obtain ⟨hn, hc⟩ := h.chain hi
 have hx : R.x = P.x := h.many.kept.x
 have hrd : R.rd = P.rd := h.many.kept.rd
 have hpg : P.pg ≤ R.pg := h.many.kept.pg
 have i := h.many.inv
 have h0 := hi.ep
 have hpp : 2 ≤ R.pg ∧ R.pg ≤ 4096 := by
  have a := i.xp; have b := i.xg; have d := i.len; have e := i.most; have f := i.m2
  omega
 rw [h.eq]
 refine ⟨⟨by simp only; omega, by simp only; omega, hpp.1, hpp.2, ?_, ?_⟩, told_slot, ⟨P.x, ht.ok, by simp only; omega, ?_⟩, rfl, fun k hk => ?_, h.fit⟩
 ·rcases h.r with r | r
  ·exact Or.inl r
  ·exact Or.inr ⟨r.1, Int.lt_of_lt_of_le r.2.1 hpg⟩
 ·cases c with
  | nil => exact Or.inl rfl
  | cons n c => exact Or.inr ⟨(hc n (by simp)).1, (hc n (by simp)).2.1⟩
 ·show R.told c _ ((P.x.ep + 1 + 1) % 2) = _
  rw [told_rest (by simp only; omega) fun z => by have := (hc _ z).1; omega, hrd, show (P.x.ep + 1 + 1) % 2 = P.x.ep % 2 by omega]
  exact ht.slot
 ·show R.told c _ (c.getD k 0) = _
  have hk' : k < c.length := hk
  rw [getD_of hk']
  exact told_chain hn (fun n hn => (hc n hn).1) hk'
theorem Told.act {P : PS} (h : Told P) (hi : Inv P) (hep : P.x.ep ≤ 4000000000) (a : PA) : Told (act P a).1 := by
 by_cases hk : a.kind = 3
 ·unfold PagerPlain.act
  rw [if_neg (by omega), if_neg (by omega), if_neg (by omega), if_pos hk]
  rcases commit_cases hi a.root with ⟨_, e⟩ | ⟨_, n, h1, h2, e⟩ | ⟨Q, R, c, e, hc⟩
  ·rw [e]; exact h
  ·rw [e]; exact h.long n
  ·rw [e]; exact hc.told hi h hep
 ·exact h.still (still_act hi a hk)
theorem ep_act {P : PS} (hi : Inv P) (a : PA) : (act P a).1.x.ep ≤ P.x.ep + 1 := by
 by_cases hk : a.kind = 3
 ·unfold PagerPlain.act
  rw [if_neg (by omega), if_neg (by omega), if_neg (by omega), if_pos hk]
  rcases commit_cases hi a.root with ⟨_, e⟩ | ⟨_, n, h1, h2, e⟩ | ⟨Q, R, c, e, hc⟩
  ·rw [e]; simp only; omega
  ·rw [e]; simp only [PS.abort]; omega
  ·rw [e, hc.eq]; exact Int.le_refl _
 ·rw [(still_act hi a hk).x]; omega
theorem told_fresh (m : Int) : Told (freshP m) := by
 have h1 : Ok S1 := by decide
 have h0 : Ok S0 := by decide
 exact ⟨h1, rfl, ⟨S0, h0, rfl, rfl⟩, rfl, fun i hi => absurd hi (Nat.not_lt_zero i), Nat.zero_le _⟩
/-- the newest super is picked -/
theorem Told.pick {P : PS} (h : Told P) : pickS (P.rd 0) (P.rd 1) = .inr P.x := by
 obtain ⟨y, y1, y2, y3⟩ := h.other
 have h1 := h.slot
 rcases (by omega : P.x.ep % 2 = 0 ∨ P.x.ep % 2 = 1) with q | q
 ·rw [q] at h1
  rw [show (P.x.ep + 1) % 2 = 1 by omega] at y3
  rw [h1, y3, pick_two h.ok y1 q (by omega), if_pos (by omega)]
 ·rw [q] at h1
  rw [show (P.x.ep + 1) % 2 = 0 by omega] at y3
  rw [h1, y3, pick_two y1 h.ok (by omega) q, if_neg (by omega)]
end Go.Proofs.YtpidnkfcccboaaaGreat.PagerTold
namespace Go.Proofs.YtpidnkfcccboaaaGreat.PagerCov
open PagePlain FreePlain FreePlain2 FreeCellsOf FreeCov SuperPlain PagerPlain PagerTold

theorem onc_more {l : List Int} {g : Int} (h : Onc l (many g)) (hg : 2 ≤ g) : Onc (g :: l) (many (g + 1)) := by
 obtain ⟨h1, h2, h3⟩ := onc_range.1 h
 refine onc_range.2 ⟨List.nodup_cons.2 ⟨fun z => by have := (h2 g z).2; omega, h1⟩, fun x hx => ?_, ?_⟩
 ·rcases List.mem_cons.1 hx with rfl | hx
  ·omega
  ·have := h2 x hx; omega
 ·rw [List.length_cons, h3]; unfold many; omega
/-- a page taken stands where v's do -/
theorem cov_take {P Q : PS} {no : Int} {v : List Int} (hi : Inv P) (t : Taken P Q no) (h : Onc (v ++ ks P.fl) (many P.pg)) : Onc (v ++ no :: ks Q.fl) (many Q.pg) := by
 rcases t.how with ⟨hp, e⟩ | ⟨e1, e2, e3⟩
 ·rw [e]; exact (onc_perm (hp.append_left v)).1 h
 ·rw [e1, e2, e3]
  refine (onc_perm ?_).1 (onc_more h (by have := hi.xp; have := hi.xg; omega))
  exact List.perm_middle.symm
theorem perm_snoc (v : List Int) (n : Int) (l : List Int) : ((v ++ [n]) ++ l).Perm (v ++ n :: l) := by simp
theorem cov_takes : ∀ (f : Nat) {P Q : PS} {c d : List Int} {b : Bool} {v : List Int}, Inv P → takes f P c = (Q, d, b) → Onc ((v ++ c) ++ ks P.fl) (many P.pg) → Onc ((v ++ d) ++ ks Q.fl) (many Q.pg)
 | 0, P, Q, c, d, b, v, hi, h, hc => by
  simp only [takes, Prod.mk.injEq] at h
  obtain ⟨rfl, rfl, rfl⟩ := h
  exact hc
 | f + 1, P, Q, c, d, b, v, hi, h, hc => by
  simp only [takes] at h
  split at h
  ·split at h
   ·simp only [Prod.mk.injEq] at h
    obtain ⟨rfl, rfl, rfl⟩ := h
    exact hc
   ·rename_i R no ht
    have t := take_some hi ht
    refine cov_takes f t.inv h ?_
    have := cov_take hi t hc
    rw [← List.append_assoc]
    exact (onc_perm (perm_snoc _ _ _)).2 this
  ·simp only [Prod.mk.injEq] at h
   obtain ⟨rfl, rfl, rfl⟩ := h
   exact hc
theorem freed_perm (e : Int) : ∀ (c : List Int) (l : Fs), (c ++ ks l).Nodup → (ks (c.foldl (fun l n => ins n e l) l)).Perm (c ++ ks l)
 | [], l, _ => List.Perm.refl _
 | n :: c, l, h => by
  have h1 : (n :: (c ++ ks l)).Nodup := h
  obtain ⟨h2, h3⟩ := List.nodup_cons.1 h1
  have hp := ins_perm (g := n) (e := e) (l := l) fun z => h2 (List.mem_append.2 (Or.inr z))
  have hp2 : (c ++ ks (ins n e l)).Perm (n :: (c ++ ks l)) := (hp.append_left c).trans List.perm_middle
  exact (freed_perm e c _ (hp2.nodup_iff.2 h1)).trans hp2
/-- the pages in use, the chain's, and the free ones, are all, each once; and so it was told -/
structure Cov (P : PS) (u k : List Int) : Prop where
 now : Onc (u ++ P.ch ++ ks P.fl) (many P.pg)
 was : Onc (k ++ P.ch ++ ks P.tf) (many P.x.pages)
theorem com_cov {P Q R : PS} {root : Int} {c : List Int} {u k : List Int} (h : Com P Q root R c) (hi : Inv P) (hf : ∃ f, takes f P.freed [] = (R, c, true)) (hc : Cov P u k) : Cov Q u u := by
 obtain ⟨f, hf⟩ := hf
 have hp : (u ++ ks P.freed.fl).Perm (u ++ P.ch ++ ks P.fl) := by
  rw [List.append_assoc]
  refine List.Perm.append_left u (freed_perm _ _ _ ?_)
  have := (onc_range.1 hc.now).1
  rw [List.append_assoc] at this
  exact (List.nodup_append.1 this).2.1
 have h1 := cov_takes f (v := u) hi.freed hf (by rw [List.append_nil]; exact (onc_perm hp).2 hc.now)
 rw [h.eq]
 exact ⟨h1, h1⟩
theorem Cov.abort {P : PS} {u k : List Int} (h : Cov P u k) : Cov P.abort k k := ⟨h.was, h.was⟩
theorem cov_new {P Q : PS} {no : Int} {u k : List Int} (hi : Inv P) (t : Taken P Q no) (h : Cov P u k) : Cov Q (u ++ [no]) k := by
 refine ⟨?_, by rw [t.kept.ch, t.kept.tf, t.kept.x]; exact h.was⟩
 have := cov_take hi t h.now
 rw [t.kept.ch]
 refine (onc_perm ?_).1 this
 rw [List.append_assoc, List.append_assoc, List.append_assoc]
 refine List.Perm.append_left u ?_
 show (P.ch ++ no :: ks Q.fl).Perm (no :: (P.ch ++ ks Q.fl))
 exact List.perm_middle
theorem Cov.put {P : PS} {u k : List Int} (h : Cov P u k) (q : Pg) : Cov (P.put q) u k := ⟨h.now, h.was⟩
def without (u : List Int) (n : Int) : List Int := u.filter (· ≠ n)
theorem without_no {u : List Int} {n : Int} (h : n ∉ u) : without u n = u := List.filter_eq_self.2 fun x hx => by simp; rintro rfl; exact h hx
theorem without_perm : ∀ {u : List Int} {n : Int}, u.Nodup → n ∈ u → u.Perm (n :: without u n)
 | x :: u, n, hn, h => by
  obtain ⟨h1, h2⟩ := List.nodup_cons.1 hn
  by_cases e : x = n
  ·subst e
   have : without (x :: u) x = without u x := by simp [without]
   rw [this, without_no h1]
  ·have : without (x :: u) n = x :: without u n := by simp [without, e]
   rw [this]
   rcases List.mem_cons.1 h with rfl | h
   ·exact absurd rfl e
   ·exact ((without_perm h2 h).cons x).trans (List.Perm.swap _ _ _)
/-- a page that is there, and isn't the chain's, is in use -/
theorem Cov.used {P : PS} {u k : List Int} (h : Cov P u k) {no : Int} (ht : P.there no) (hc : no ∉ P.ch) : no ∈ u := by
 obtain ⟨t1, t2, t3⟩ := ht
 have h1 := (onc_iff _ _).1 h.now
 have h2 := h1.2 (no - 2).toNat (by unfold many; omega)
 rw [show (2 : Int) + ((no - 2).toNat : Int) = no by omega] at h2
 have h3 : no ∈ u ++ P.ch ++ ks P.fl := List.count_pos_iff.1 (by omega)
 rcases List.mem_append.1 h3 with h3 | h3
 ·rcases List.mem_append.1 h3 with h3 | h3
  ·exact h3
  ·exact absurd h3 hc
 ·exact absurd h3 t3
theorem cov_drop {P : PS} {u k : List Int} (h : Cov P u k) {no : Int} (ht : P.there no) (hc : no ∉ P.ch) : Cov (P.drop no).1 (without u no) k := by
 have hu := h.used ht hc
 have hnd : u.Nodup := by
  have := (onc_range.1 h.now).1
  rw [List.append_assoc] at this
  exact (List.nodup_append.1 this).1
 have key : ∀ e, Onc (without u no ++ P.ch ++ ks (ins no e P.fl)) (many P.pg) := fun e => by
  refine (onc_perm ?_).1 h.now
  have h1 := ins_perm (e := e) ht.2.2
  refine List.Perm.trans ?_ (List.Perm.append_left _ h1.symm)
  refine List.Perm.trans (((without_perm hnd hu).append_right _).append_right _) ?_
  exact List.perm_middle.symm
 unfold PS.drop
 rw [if_pos ht]
 split
 ·exact ⟨key 0, h.was⟩
 ·exact ⟨key _, h.was⟩
/-- what the law keeps of pages in use -/
def step (u k : List Int) (a : PA) (no e : Int) : List Int × List Int :=
 if e ≠ 0 ∧ a.kind ≠ 3 then (u, k) else if a.kind = 0 then (u ++ [no], k) else if a.kind = 1 then (without u a.no ++ [no], k) else if a.kind = 2 then (without u a.no, k)
 else if a.kind = 3 ∧ e = 0 then (u, u) else if a.kind = 4 ∨ (a.kind = 3 ∧ e ≠ 81) then (k, k) else (u, k)
theorem there_take {P Q : PS} {no n : Int} (t : Taken P Q no) (_ : Inv P) (h : P.there n) : Q.there n := by
 refine ⟨h.1, Int.lt_of_lt_of_le h.2.1 t.kept.pg, fun z => h.2.2 ?_⟩
 obtain ⟨e, he⟩ := mem_ks.1 z
 exact mem_ks.2 ⟨e, t.sub _ he⟩
theorem step_err (u k : List Int) (a : PA) (no : Int) {e : Int} (he : e ≠ 0) (hk : a.kind ≠ 3) : step u k a no e = (u, k) := by unfold step; rw [if_pos ⟨he, hk⟩]
theorem Cov.act {P : PS} {u k : List Int} (hi : Inv P) (h : Cov P u k) (a : PA) (hch : a.kind = 1 ∨ a.kind = 2 → a.no ∉ (act P a).1.ch) :
  Cov (act P a).1 (step u k a (act P a).2.1 (act P a).2.2).1 (step u k a (act P a).2.1 (act P a).2.2).2 := by
 by_cases k0 : a.kind = 0
 ·have e1 : PagerPlain.act P a = P.new a.of a.link a.cells := by simp [PagerPlain.act, k0]
  rw [e1]
  rcases new_cases P a.of a.link a.cells with ⟨e, he, hr⟩ | ⟨Q, no, ht, _, hr⟩
  ·rw [hr, step_err u k a _ he (by omega)]; exact h
  ·rw [hr]; simp only [step, k0]
   simpa using (cov_new hi (take_some hi ht) h).put _
 by_cases k1 : a.kind = 1
 ·have e1 : PagerPlain.act P a = P.change a.no a.of a.link a.cells := by simp [PagerPlain.act, k1]
  have hnc : a.no ∉ P.ch := by
   have := hch (Or.inl k1)
   rwa [(still_act hi a (by omega)).ch] at this
  rw [e1]
  unfold PS.change
  by_cases ht : P.there a.no
  rotate_left
  ·rw [if_neg ht]; simp only [step, k1]; simpa using h
  rw [if_pos ht]
  by_cases hn : a.no ∈ P.nw
  ·rw [if_pos hn]
   by_cases he : err (P.of a.of a.link a.cells a.no) = 0
   ·rw [if_neg (fun z => z he)]
    simp only [step, k1]
    have hu := h.used ht hnc
    have hnd : u.Nodup := by
     have := (onc_range.1 h.now).1
     rw [List.append_assoc] at this
     exact (List.nodup_append.1 this).1
    refine Cov.put ⟨?_, h.was⟩ _
    refine (onc_perm ?_).1 h.now
    refine List.Perm.append_right _ (List.Perm.append_right _ ?_)
    simp only [show ¬ ((0 : Int) ≠ 0 ∧ (1 : Int) ≠ 3) by omega, if_false, show ¬ ((1 : Int) = 0) by omega, if_true]
    exact (without_perm hnd hu).trans (List.perm_append_comm (l₁ := [a.no]))
   ·rw [if_pos he, step_err u k a _ he (by omega)]; exact h
  ·rw [if_neg hn]
   rcases new_cases P a.of a.link a.cells with ⟨e, he, hr⟩ | ⟨Q, no, htk, _, hr⟩
   ·rw [hr]; simp only; rw [if_pos he, step_err u k a _ he (by omega)]; exact h
   ·rw [hr]
    have t := take_some hi htk
    have h2 := (cov_new hi t h).put (P.of a.of a.link a.cells no)
    have hq0 := there_take t hi ht
    have hq : (Q.put (P.of a.of a.link a.cells no)).there a.no := hq0
    have hd := cov_drop h2 hq (by show a.no ∉ Q.ch; rw [t.kept.ch]; exact hnc)
    have hne : a.no ≠ no := by
     rintro e
     have := (t.inv.nr no (by rw [t.nw]; simp)).2.2.1
     rcases t.how with ⟨hp, _⟩ | ⟨_, e2, _⟩
     ·exact ht.2.2 (by rw [e]; exact hp.mem_iff.2 (by simp))
     ·have := ht.2.1; omega
    have hw : without (u ++ [no]) a.no = without u a.no ++ [no] := by
     unfold without
     rw [List.filter_append]
     simp [hne.symm]
    rw [hw] at hd
    simp only [ne_eq, not_true_eq_false, if_false, step, k1]
    simpa using hd
 by_cases k2 : a.kind = 2
 ·have e1 : PagerPlain.act P a = ((P.drop a.no).1, 0, (P.drop a.no).2) := by simp [PagerPlain.act, k2]
  have hnc : a.no ∉ P.ch := by
   have := hch (Or.inr k2)
   rwa [(still_act hi a (by omega)).ch] at this
  rw [e1]
  by_cases ht : P.there a.no
  ·have hd := cov_drop h ht hnc
   have he : (P.drop a.no).2 = 0 := by unfold PS.drop; rw [if_pos ht]
   simp only [step, k2, he]
   simpa using hd
  ·have he : P.drop a.no = (P, 81) := by unfold PS.drop; rw [if_neg ht]
   rw [he]; simp only [step, k2]; simpa using h
 by_cases k3 : a.kind = 3
 ·have e1 : PagerPlain.act P a = ((P.commit a.root).1, 0, (P.commit a.root).2) := by simp [PagerPlain.act, k3]
  rw [e1]
  by_cases hr : a.root = 0 ∨ P.there a.root
  ·have hc : ¬ (a.root ≠ 0 ∧ ¬ P.there a.root) := fun ⟨a, b⟩ => hr.elim a b
   obtain ⟨R, c, b, ht⟩ : ∃ R c b, takes (P.freed.fl.length + 1) P.freed [] = (R, c, b) := ⟨_, _, _, rfl⟩
   have m := takes_many _ hi.freed ht
   have hcm : P.commit a.root = match (R, c, b) with
    | (Q, _, false) => ({ P with len := Q.len }.abort, 82)
    | (Q, c, true) => let y : Sp := ⟨P.x.ep + 1, a.root, c.headD 0, Q.pg⟩
     ({ Q with rd := Q.told c y, x := y, ch := c, nw := [], od := y.ep, tf := Q.fl }, 0) := by
    unfold PS.commit
    rw [if_neg hc, ht]
    all_goals rfl
   cases b with
   | false =>
    rw [hcm]; simp only [step, k3]
    have : Cov { P with len := R.len } u k := ⟨h.now, h.was⟩
    simpa using this.abort
   | true =>
    have hcom : Com P (P.commit a.root).1 a.root R c := ⟨hr, m, takes_fit _ (by simp; omega) hi.freed ht, by rw [hcm]⟩
    have := com_cov hcom hi ⟨_, ht⟩ h
    rw [hcm] at this ⊢
    simp only [step, k3]
    simpa using this
  ·have hc : a.root ≠ 0 ∧ ¬ P.there a.root := ⟨fun h => hr (Or.inl h), fun h => hr (Or.inr h)⟩
   have : P.commit a.root = (P, 81) := by unfold PS.commit; rw [if_pos hc]
   rw [this]; simp only [step, k3]; simpa using h
 by_cases k4 : a.kind = 4
 ·have e1 : PagerPlain.act P a = (P.abort, 0, 0) := by simp [PagerPlain.act, k4]
  rw [e1]; simp only [step, k4]; simpa using h.abort
 by_cases k5 : a.kind = 5
 ·have e1 : PagerPlain.act P a = ({ P with od := min a.ep P.x.ep }, 0, 0) := by simp [PagerPlain.act, k5]
  have h5 : Cov { P with od := min a.ep P.x.ep } u k := ⟨h.now, h.was⟩
  rw [e1]; simp only [step, k5]; simpa using h5
 have e1 : PagerPlain.act P a = (P, 0, 0) := by simp [PagerPlain.act, k0, k1, k2, k3, k4, k5]
 rw [e1]
 have es : step u k a 0 0 = (u, k) := by simp [step, k0, k1, k2, k3, k4]
 rw [es]
 exact h
end Go.Proofs.YtpidnkfcccboaaaGreat.PagerCov
namespace Go.Proofs.YtpidnkfcccboaaaGreat.PagerNum
open PagePlain PageGet PageAwake FreePlain FreePlain2 FreeCellsOf FreeCov SuperPlain PagerPlain PagerTold PagerCov

theorem few_free {P : PS} (h : Inv P) : (P.fl.length : Int) ≤ P.pg - 2 := by
 have h1 := (rise_nodup h.rise).length_le_of_subset (l₂ := rng (P.pg - 2).toNat) fun n hn => by
  obtain ⟨e, he⟩ := mem_ks.1 hn
  have := h.fr _ he
  exact mem_rng.2 ⟨by omega, by simp only at this; omega⟩
 rw [len_rng] at h1
 simp only [ks, List.length_map] at h1
 have := h.xp
 have := h.xg
 omega
/-- a page, or an error -/
def rdP (P : PS) (no : Int) : Int ⊕ Pg := if no < 2 ∨ P.pg ≤ no then .inl 81 else match gotE (P.rd no) with
 | .inl e => .inl e
 | .inr q => if q.no = no then .inr q else .inl 41
theorem read_page {P : PS} {q : Pg} (h1 : 2 ≤ q.no) (h2 : q.no < P.pg) (he : err q = 0) (hr : P.rd q.no = page q) : rdP P q.no = .inr q := by
 unfold rdP
 rw [if_neg (by omega), hr, gotE_page _ he]
 simp only [if_true]
theorem read_still {P Q : PS} (hP : Inv P) (hQ : Inv Q) (h : Still P Q) {no : Int} (h1 : no < P.x.pages) (h2 : no ∉ ks P.tf) : rdP Q no = rdP P no := by
 have a := hP.xg
 have b := hQ.xg
 rw [h.x] at b
 unfold rdP
 rw [h.rd no h1 h2]
 by_cases h3 : no < 2
 ·rw [if_pos (Or.inl h3), if_pos (Or.inl h3)]
 ·rw [if_neg (by omega), if_neg (by omega)]
/-- New where there is room -/
theorem new_ok {P : PS} (hi : Inv P) (kind link : Int) (cells : List ByteArray) (he : err (P.of kind link cells 0) = 0) (hp : P.pg + 1 ≤ P.most) :
  ∃ Q no, Taken P Q no ∧ P.new kind link cells = (Q.put (P.of kind link cells no), no, 0) := by
 rcases new_cases P kind link cells with ⟨e, h1, hr⟩ | ⟨Q, no, ht, _, hr⟩
 ·exfalso
  unfold PS.new at hr
  rw [if_neg (fun z => z he)] at hr
  cases ht : P.take with
  | none => have := (take_none ht).1; omega
  | some r =>
   obtain ⟨Q, no⟩ := r
   rw [ht] at hr
   simp only [Prod.mk.injEq] at hr
   exact h1 hr.2.2.symm
 ·exact ⟨Q, no, take_some hi ht, hr⟩
theorem err_small {P : PS} (h0 : 0 ≤ P.x.ep) (h1 : P.x.ep ≤ 4000000000) {s : ByteArray} (hs : s.size ≤ 200) {no : Int} (h2 : 0 ≤ no) (h3 : no ≤ 4096) : err (P.of 1 0 [s] no) = 0 := by
 refine (PagePut.err_zero _).2 ⟨?_, ?_⟩
 ·show room [s] ≤ 236
  rw [room_one]
  omega
 ·show 1 ≤ (1 : Int) ∧ (1 : Int) ≤ 255 ∧ 0 ≤ no ∧ no ≤ 4294967295 ∧ 0 ≤ P.x.ep + 1 ∧ P.x.ep + 1 ≤ 4294967295 ∧ 0 ≤ (0 : Int) ∧ (0 : Int) ≤ 4294967295
  omega
/-- pages made one behind the other -/
structure Made (P : PS) (ls : List ByteArray) : Prop where
 inv : Inv P
 len : P.nw.length = ls.length
 rd : ∀ i (h : i < P.nw.length), P.rd P.nw[i] = page (P.of 1 0 [ls.getD i ⟨#[]⟩] P.nw[i])
theorem Made.read {P : PS} {ls : List ByteArray} (h : Made P ls) (he : P.x.ep ≤ 4000000000) (hs : ∀ s ∈ ls, s.size ≤ 200) {i : Nat} (hi : i < P.nw.length) : rdP P P.nw[i] = .inr (P.of 1 0 [ls.getD i ⟨#[]⟩] P.nw[i]) := by
 have hn := h.inv.nr _ (List.getElem_mem hi)
 have hl := h.inv.len
 have hm := h.inv.most
 have h2 := h.inv.m2
 have h0 := h.inv.ep
 have hq := read_page (P := P) (q := P.of 1 0 [ls.getD i ⟨#[]⟩] P.nw[i]) hn.1 hn.2.1 (err_small (by omega) he ?_ (by omega) (by omega)) (h.rd i hi)
 ·exact hq
 ·have hil : i < ls.length := by rw [← h.len]; exact hi
  rw [getD_of hil]
  exact hs _ (List.getElem_mem hil)
end Go.Proofs.YtpidnkfcccboaaaGreat.PagerNum
