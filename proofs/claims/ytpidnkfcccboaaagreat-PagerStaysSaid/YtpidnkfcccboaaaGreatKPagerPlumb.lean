/- PagerSpec, PagerPlumb, PagerMem. -/
import Derived.Test.YtpidnkfcccboaaaGreatKDiskRead
import Derived.Test.YtpidnkfcccboaaaGreatKFreeCheck
import Derived.Test.YtpidnkfcccboaaaGreatKPageBytes
import Derived.Test.YtpidnkfcccboaaaGreatKPagePlumb
import Derived.Test.YtpidnkfcccboaaaGreatKPagerNum
import Derived.Test.YtpidnkfcccboaaaGreatKPlumb
import Derived.Test.YtpidnkfcccboaaaGreatKSuperPlumb
import Derived.Deep.Fields
import Derived.Deep.Slices
import Derived.Maps.OwnSet
namespace Go.Proofs.YtpidnkfcccboaaaGreat.PagerSpec
open Go.RowKit Base PagePlain PageSmall FreePlain FreeMem SuperPlain SuperRefCheck PagerPlain PagerTold PagerNum DiskMem

abbrev Blks := Nat → Prop
/-- a pager (its block, its disk's) in memory: what it is, its blocks, how much was summed and isn't synced at most -/
abbrev Mem := World → Nat → Nat → PS → Blks → Int → Prop
/-- a row in blocks of S -/
def RowP (w : World) (S : Blks) (A : Option Addr) (vs : List Value) : Prop := ∀ k v, vs[k]? = some v → ∃ ad, A = some ad ∧ S ad.block ∧ ad.block < w.heap.size ∧ w.cell? (ad.add k) = some v
theorem cell_same {w w' : World} {p : Addr} (h : w'.heap[p.block]? = w.heap[p.block]?) : w'.cell? p = w.cell? p := by simp [World.cell?, h]
section
variable {w w' : World} {S T G : Blks} {A : Option Addr} {vs : List Value}
theorem RowP.row (h : RowP w S A vs) : Row w w.heap.size A vs := fun k v hv => by
 obtain ⟨ad, a, _, c, d⟩ := h k v hv
 exact ⟨ad, a, c, d⟩
theorem RowP.wide (h : RowP w S A vs) (hT : ∀ b, S b → T b) : RowP w T A vs := fun k v hv => by
 obtain ⟨ad, a, b, c⟩ := h k v hv
 exact ⟨ad, a, hT _ b, c⟩
theorem RowP.turn (h : RowP w S A vs) (t : Turn G w w') (hG : ∀ b, S b → ¬ G b) : RowP w' S A vs := fun k v hv => by
 obtain ⟨ad, a, b, c, d⟩ := h k v hv
 refine ⟨ad, a, b, Nat.lt_of_lt_of_le c t.size, ?_⟩
 rw [← d]
 exact cell_same (by rw [blk_add]; exact t.block _ c (hG _ b))
theorem RowP.below (h : RowP w S A vs) (hb : Below w.heap.size w w') : RowP w' S A vs := h.turn (Turn.ofBelow (F := fun _ => False) hb) fun _ _ h => h
theorem RowP.nil : RowP w S A [] := fun k v hv => by simp at hv
end
/-- behind a call: what the pager is now; its blocks are its own and new ones; N: new ones that aren't its -/
def Gone (M : Mem) (F : Blks) (w : World) (p d : Nat) (P : PS) (m : Int) (N : Blks) (w' : World) : Prop :=
 ∃ F', M w' p d P F' m ∧ Turn F w w' ∧ (∀ b, F' b → F b ∨ w.heap.size ≤ b) ∧ ∀ b, N b → w.heap.size ≤ b ∧ b < w'.heap.size ∧ ¬ F' b
def NoB : Blks := fun _ => False
def In (z : Int) : Prop := -9223372036854775808 ≤ z ∧ z ≤ 9223372036854775807
def FewC (cs : List ByteArray) : Prop := cs.length ≤ 130 ∧ ∀ q ∈ cs, q.size ≤ 300
def intsV (l : List Int) : List Value := l.map (Value.int .i64)
abbrev nopV : Value := .agg #[.int .i64 0, .int .i64 0, .int .i64 0, .int .i64 0, .slice none 0 0]
/-- what a pager must be for the calls -/
structure Fine (P : PS) (m : Int) : Prop where
 inv : Inv P
 told : PagerTold.Told P
 few : P.most ≤ 300
 ep : P.x.ep ≤ 1000000
 m0 : 0 ≤ m
 m1 : m ≤ 700000000
structure Specs (M : Mem) : Prop where
 keep : ∀ {w w' : World} {p d : Nat} {P : PS} {F G : Blks} {m : Int}, M w p d P F m → Turn G w w' → (∀ b, F b → ¬ G b) → M w' p d P F m
 lt : ∀ {w : World} {p d : Nat} {P : PS} {F : Blks} {m : Int}, M w p d P F m → ∀ b, F b → b < w.heap.size
 up : ∀ {w : World} {p d : Nat} {P : PS} {F : Blks} {m n : Int}, M w p d P F m → m ≤ n → M w p d P F n
 fresh : ∀ (w : World) (most : Int), 2 ≤ most → most ≤ 300 → Calls Tryz.prog 8 #[.int .i64 most] w fun e w' => ∃ p d F, e = .returned (.tuple #[.pointer (some ⟨p, 0, none⟩), .pointer (some ⟨d, 0, none⟩)]) ∧ M w' p d (freshP most) F 1000000 ∧ (∀ b, F b → w.heap.size ≤ b) ∧ Below w.heap.size w w'
 again : ∀ {w : World} {p d : Nat} {P : PS} {F : Blks} {m : Int}, M w p d P F m → Fine P m → Calls Tryz.prog 14 #[.pointer (some ⟨d, 0, none⟩)] w fun e w' => ∃ q F', e = .returned (.tuple #[.pointer (some ⟨q, 0, none⟩), .int .i64 0]) ∧ M w' q d { P.abort with od := P.x.ep } F' (m + 1000000) ∧ Turn F w w' ∧ ∀ b, F' b → F b ∨ w.heap.size ≤ b
 super : ∀ {w : World} {p d : Nat} {P : PS} {F : Blks} {m : Int}, M w p d P F m → Calls Tryz.prog 16 #[.pointer (some ⟨p, 0, none⟩)] w fun e w' => e = .returned (sv P.x) ∧ Below w.heap.size w w'
 pages : ∀ {w : World} {p d : Nat} {P : PS} {F : Blks} {m : Int}, M w p d P F m → Calls Tryz.prog 21 #[.pointer (some ⟨p, 0, none⟩)] w fun e w' => e = .returned (.int .i64 P.pg) ∧ Below w.heap.size w w'
 free : ∀ {w : World} {p d : Nat} {P : PS} {F : Blks} {m : Int}, M w p d P F m → Fine P m → Calls Tryz.prog 18 #[.pointer (some ⟨p, 0, none⟩)] w fun e w' => ∃ A c, e = .returned (.slice A P.fl.length c) ∧ Below w.heap.size w w' ∧ RowP w' (fun b => w.heap.size ≤ b) A (fr P.fl)
 chain : ∀ {w : World} {p d : Nat} {P : PS} {F : Blks} {m : Int}, M w p d P F m → Fine P m → Calls Tryz.prog 20 #[.pointer (some ⟨p, 0, none⟩)] w fun e w' => ∃ A c, e = .returned (.slice A P.ch.length c) ∧ Below w.heap.size w w' ∧ RowP w' (fun b => w.heap.size ≤ b) A (intsV P.ch)
 read : ∀ {w : World} {p d : Nat} {P : PS} {F : Blks} {m : Int} (no : Int), M w p d P F m → Fine P m → In no → Calls Tryz.prog 25 #[.pointer (some ⟨p, 0, none⟩), .int .i64 no] w fun e w' => ∃ N, Gone M F w p d P (m + 1000) N w' ∧ match rdP P no with
  | .inl k => e = .returned (.tuple #[nopV, .int .i64 k])
  | .inr q => ∃ A c, e = .returned (.tuple #[pv q A c, .int .i64 0]) ∧ RowP w' N A (strs q.cells)
 new : ∀ {w : World} {p d : Nat} {P : PS} {F : Blks} {m : Int} (kind link : Int) (cells : List ByteArray) (A : Option Addr) (c : Nat), M w p d P F m → Fine P m → In kind → In link → FewC cells → RowP w (fun b => ¬ F b) A (strs cells) →
  Calls Tryz.prog 27 #[.pointer (some ⟨p, 0, none⟩), .int .i64 kind, .int .i64 link, .slice A cells.length c] w fun e w' => e = .returned (.tuple #[.int .i64 (P.new kind link cells).2.1, .int .i64 (P.new kind link cells).2.2]) ∧ Gone M F w p d (P.new kind link cells).1 (m + 1000000) NoB w'
 change : ∀ {w : World} {p d : Nat} {P : PS} {F : Blks} {m : Int} (no kind link : Int) (cells : List ByteArray) (A : Option Addr) (c : Nat), M w p d P F m → Fine P m → In no → In kind → In link → FewC cells → RowP w (fun b => ¬ F b) A (strs cells) →
  Calls Tryz.prog 30 #[.pointer (some ⟨p, 0, none⟩), .int .i64 no, .int .i64 kind, .int .i64 link, .slice A cells.length c] w fun e w' => e = .returned (.tuple #[.int .i64 (P.change no kind link cells).2.1, .int .i64 (P.change no kind link cells).2.2]) ∧ Gone M F w p d (P.change no kind link cells).1 (m + 1000000) NoB w'
 drop : ∀ {w : World} {p d : Nat} {P : PS} {F : Blks} {m : Int} (no : Int), M w p d P F m → Fine P m → In no → Calls Tryz.prog 38 #[.pointer (some ⟨p, 0, none⟩), .int .i64 no] w fun e w' => e = .returned (.int .i64 (P.drop no).2) ∧ Gone M F w p d (P.drop no).1 (m + 1000000) NoB w'
 commit : ∀ {w : World} {p d : Nat} {P : PS} {F : Blks} {m : Int} (root : Int), M w p d P F m → Fine P m → In root → Calls Tryz.prog 29 #[.pointer (some ⟨p, 0, none⟩), .int .i64 root] w fun e w' => e = .returned (.int .i64 (P.commit root).2) ∧ Gone M F w p d (P.commit root).1 (m + 1000000) NoB w'
 abort : ∀ {w : World} {p d : Nat} {P : PS} {F : Blks} {m : Int}, M w p d P F m → Fine P m → Calls Tryz.prog 24 #[.pointer (some ⟨p, 0, none⟩)] w fun e w' => e = .returned (.tuple #[]) ∧ Gone M F w p d P.abort (m + 1000000) NoB w'
 oldest : ∀ {w : World} {p d : Nat} {P : PS} {F : Blks} {m : Int} (ep : Int), M w p d P F m → Fine P m → In ep → Calls Tryz.prog 39 #[.pointer (some ⟨p, 0, none⟩), .int .i64 ep] w fun e w' => e = .returned (.tuple #[]) ∧ Gone M F w p d { P with od := min ep P.x.ep } (m + 1000000) NoB w'
/-- a pager in a law's walk: all that it turns is none of S -/
structure PM (M : Mem) (W w : World) (p d : Nat) (P : PS) (m : Int) (S : Blks) : Prop where
 mem : ∃ F, M w p d P F m ∧ ∀ b, F b → ¬ S b
 low : ∀ b, b < W.heap.size → S b
 lt : ∀ b, S b → b < w.heap.size
 base : Below W.heap.size W w
section
variable {M : Mem} (X : Specs M) {W w w' : World} {p d : Nat} {P P' : PS} {m m' : Int} {S T N : Blks}
abbrev Not (S : Blks) : Blks := fun b => ¬ S b
include X in
theorem PM.below (h : PM M W w p d P m S) (hb : Below w.heap.size w w') : PM M W w' p d P m S := by
 obtain ⟨⟨F, h1, h2⟩, h3, h4, h5⟩ := h
 refine ⟨⟨F, X.keep h1 (Turn.ofBelow (F := fun _ => False) hb) fun _ _ h => h, h2⟩, h3, fun b hs => Nat.lt_of_lt_of_le (h4 b hs) hb.size, h5.trans (hb.mono h5.size)⟩
/-- what was made since then is the law's -/
def Plus (S : Blks) (w w' : World) : Blks := fun b => S b ∨ (w.heap.size ≤ b ∧ b < w'.heap.size)
include X in
theorem PM.more (h : PM M W w p d P m S) (hb : Below w.heap.size w w') : PM M W w' p d P m (Plus S w w') := by
 obtain ⟨⟨F, h1, h2⟩, h3, h4, h5⟩ := h
 refine ⟨⟨F, X.keep h1 (Turn.ofBelow (F := fun _ => False) hb) fun _ _ h => h, fun b hF hS => ?_⟩, fun b hbw => Or.inl (h3 b hbw), fun b hs => ?_, h5.trans (hb.mono h5.size)⟩
 ·rcases hS with hS | hS
  ·exact h2 b hF hS
  ·have := X.lt h1 b hF; omega
 ·rcases hs with hs | hs
  ·exact Nat.lt_of_lt_of_le (h4 b hs) hb.size
  ·exact hs.2
theorem PM.less (h : PM M W w p d P m S) (hT : ∀ b, T b → S b) (hl : ∀ b, b < W.heap.size → T b) : PM M W w p d P m T := by
 obtain ⟨⟨F, h1, h2⟩, h3, h4, h5⟩ := h
 exact ⟨⟨F, h1, fun b hF hS => h2 b hF (hT b hS)⟩, hl, fun b hs => h4 b (hT b hs), h5⟩
theorem PM.gone (h : PM M W w p d P m S) {F : Blks} (hF : ∀ b, F b → ¬ S b) (g : Gone M F w p d P' m' N w') : PM M W w' p d P' m' (fun b => S b ∨ N b) ∧ Turn (Not S) w w' := by
 obtain ⟨F', g1, g2, g3, g4⟩ := g
 obtain ⟨_, h3, h4, h5⟩ := h
 have ht : Turn (Not S) w w' := g2.mono fun b _ hb => hF b hb
 refine ⟨⟨⟨F', g1, fun b hb hs => ?_⟩, fun b hb => Or.inl (h3 b hb), fun b hs => ?_, ?_⟩, ht⟩
 ·rcases hs with hs | hs
  ·rcases g3 b hb with q | q
   ·exact hF b q hs
   ·have := h4 b hs; omega
  ·exact (g4 b hs).2.2 hb
 ·rcases hs with hs | hs
  ·exact Nat.lt_of_lt_of_le (h4 b hs) g2.size
  ·exact (g4 b hs).2.1
 ·exact g2.belowOf h5 h5.size fun b hb => by
   rcases Nat.lt_or_ge b W.heap.size with q | q
   ·exact absurd (h3 b q) (hF b hb)
   ·exact q
theorem PM.gone0 (h : PM M W w p d P m S) {F : Blks} (hF : ∀ b, F b → ¬ S b) (g : Gone M F w p d P' m' NoB w') : PM M W w' p d P' m' S ∧ Turn (Not S) w w' := by
 obtain ⟨a, b⟩ := h.gone hF g
 exact ⟨a.less (fun b hb => Or.inl hb) h.low, b⟩
include X in
theorem PM.up (h : PM M W w p d P m S) (hm : m ≤ m') : PM M W w p d P m' S := by
 obtain ⟨⟨F, h1, h2⟩, h3, h4, h5⟩ := h
 exact ⟨⟨F, X.up h1 hm, h2⟩, h3, h4, h5⟩
end
end Go.Proofs.YtpidnkfcccboaaaGreat.PagerSpec
namespace Go.Proofs.YtpidnkfcccboaaaGreat.PagerPlumb
open Go.ChangeShapes Go.WideShapes Go.RowKit Base Plumb PagePlain PageSmall PagerPlain PagerSpec

/-- an act's cells -/
def actCells (x : PA) (K : Option Addr) (ck : Nat) : List Value := [.int .i64 x.kind, .int .i64 x.of, .int .i64 x.link, .int .i64 x.no, .int .i64 x.root, .int .i64 x.ep, .slice K x.cells.length ck]
/-- its value -/
abbrev av (x : PA) (K : Option Addr) (ck : Nat) : Value := .agg #[.int .i64 x.kind, .int .i64 x.of, .int .i64 x.link, .int .i64 x.no, .int .i64 x.root, .int .i64 x.ep, .slice K x.cells.length ck]
structure ActOk (x : PA) : Prop where
 of : In x.of
 link : In x.link
 no : In x.no
 root : In x.root
 ep : In x.ep
 few : x.cells.length ≤ maxLen
/-- acts that a slice reads -/
def Acts (W : World) (A : Option Addr) (xs : List PA) : Prop :=
 ∀ i x, xs[i]? = some x → ActOk x ∧ ∃ ab ao K ck, A = some ⟨ab, ao, none⟩ ∧ ab < W.heap.size ∧ (∀ j v, (actCells x K ck)[j]? = some v → W.cell? ⟨ab, ao + i * 7 + j, none⟩ = some v) ∧ Row W W.heap.size K (strs x.cells)
theorem Acts.below {W w : World} {A : Option Addr} {xs : List PA} (h : Acts W A xs) (hb : Below W.heap.size W w) : Acts w A xs := fun i x hx => by
 obtain ⟨h1, ab, ao, K, ck, h2, h3, h4, h5⟩ := h i x hx
 exact ⟨h1, ab, ao, K, ck, h2, Nat.lt_of_lt_of_le h3 hb.size, fun j v hv => (hb.cell (p := ⟨ab, ao + i * 7 + j, none⟩) h3).trans (h4 j v hv), h5.belowSize hb⟩
theorem list_of {α : Type} {p : Nat → α → Prop} : ∀ n : Nat, (∀ i, i < n → ∃ x, p i x) → ∃ l : List α, l.length = n ∧ ∀ i x, l[i]? = some x → p i x
 | 0, _ => ⟨[], rfl, fun i x h => by simp at h⟩
 | n + 1, h => by
  obtain ⟨l, hl, hp⟩ := list_of n fun i hi => h i (by omega)
  obtain ⟨x, hx⟩ := h n (by omega)
  refine ⟨l ++ [x], by simp [hl], fun i y hy => ?_⟩
  rcases Nat.lt_or_ge i l.length with q | q
  ·rw [List.getElem?_append_left q] at hy; exact hp i y hy
  ·rw [List.getElem?_append_right q] at hy
   rcases Nat.eq_zero_or_pos (i - l.length) with r | r
   ·rw [r] at hy; simp at hy; subst hy; rw [show i = n by omega]; exact hx
   ·rw [List.getElem?_eq_none (by simp; omega)] at hy; cases hy
theorem spot_none {W : World} {a : Addr} {j : Nat} {v : Value} (h : W.cell? (a.add j) = some v) (hj : j = 0 ∨ a.spot = none) : a = ⟨a.block, a.off, none⟩ := by
 obtain ⟨b, o, sp⟩ := a
 rcases hj with rfl | hj
 ·cases sp with
  | none => rfl
  | some q => simp [World.cell?, Addr.add] at h; split at h <;> simp_all
 ·simp at hj; subst hj; rfl
theorem add_blk_ (b o j : Nat) : (⟨b, o, none⟩ : Addr).add j = ⟨b, o + j, none⟩ := by simp [Addr.add]
section
variable {H : Type} {enc : TypeId × Value → H} {W : World}
theorem in_of {z : Int} (h : (Lit.int .i64 z).wf = true) : In z := by
 simpa [In, Lit.wf, IntKind.min, IntKind.max, IntKind.signed, IntKind.bits] using h
set_option maxRecDepth 100000 in
set_option maxHeartbeats 1600000 in
/-- a slice of acts -/
theorem open_acts {fuel : Nat} {v : Value} {y : DataW H × List MemPlace} (h : DataW.trod enc Tryz.prog W 0 (fun _ => true) true fuel 22 [v] = some y) :
  ∃ (A : Option Addr) (c : Nat) (xs : List PA), v = .slice A xs.length c ∧ Acts W A xs ∧ xs.length ≤ maxLen := by
 rcases Go.Deep.open_slice Tryz.underlying22 h with ⟨h0, _⟩ | ⟨a, len, cap, m, n, D, Pl, hcs, hb, hl, hm, hmm, hx, hi⟩
 ·injection h0 with h0
  exact ⟨none, 0, [], h0, fun i x hx => by simp at hx, by simp [maxLen]⟩
 ·injection hcs with hcs
  have hC : Tryz.prog.cellsOf 39 = 7 := by kernel_rfl
  have c3 : Tryz.prog.cellsOf 3 = 1 := by kernel_rfl
  have c33 : Tryz.prog.cellsOf 37 = 1 := by kernel_rfl
  have hml : len ≤ m := by rw [hmm]; split <;> omega
  obtain ⟨xs, hxl, hxs⟩ := list_of (p := fun i (x : PA) => ActOk x ∧ ∃ ab ao K ck, a = ⟨ab, ao, none⟩ ∧ ab < W.heap.size ∧ (∀ j v, (actCells x K ck)[j]? = some v → W.cell? ⟨ab, ao + i * 7 + j, none⟩ = some v) ∧ Row W W.heap.size K (strs x.cells)) len (fun i hil => by
   obtain ⟨cs', hc, ht⟩ := hi i (by omega)
   rw [hC] at hc
   obtain ⟨_, hcl, hat⟩ := World.cells?_some hc
   obtain ⟨ys, n', _, _, _, hyl, hf⟩ := DataW.trod_struct Tryz.underlying39 ht
   have f0 := hf 0 _ rfl
   have f1 := hf 1 _ rfl
   have f2 := hf 2 _ rfl
   have f3 := hf 3 _ rfl
   have f4 := hf 4 _ rfl
   have f5 := hf 5 _ rfl
   have f6 := hf 6 _ rfl
   match cs', hcl with
   | [v0, v1, v2, v3, v4, v5, v6], _ =>
    match ys, hyl with
    | [y0, y1, y2, y3, y4, y5, y6], _ =>
     simp [c3] at f0 f1 f2 f3 f4 f5
     simp [c33] at f6
     obtain ⟨z0, e0, _, _⟩ := DataW.trod_int Tryz.underlying3 f0
     obtain ⟨z1, e1, _, w1⟩ := DataW.trod_int Tryz.underlying3 f1
     obtain ⟨z2, e2, _, w2⟩ := DataW.trod_int Tryz.underlying3 f2
     obtain ⟨z3, e3, _, w3⟩ := DataW.trod_int Tryz.underlying3 f3
     obtain ⟨z4, e4, _, w4⟩ := DataW.trod_int Tryz.underlying3 f4
     obtain ⟨z5, e5, _, w5⟩ := DataW.trod_int Tryz.underlying3 f5
     obtain ⟨K, ck, ks, rfl, hrow, hkl⟩ := PagePlumb.open_strsT f6
     injection e0 with e0
     injection e1 with e1
     injection e2 with e2
     injection e3 with e3
     injection e4 with e4
     injection e5 with e5
     subst e0 e1 e2 e3 e4 e5
     have q0 := hat 0 (by omega)
     rw [Go.Deep.add_add] at q0
     have hsn : a.spot = none ∨ i = 0 := by
      rcases Nat.eq_zero_or_pos i with r | r
      ·exact .inr r
      ·left
       obtain ⟨b, o, sp⟩ := a
       have q1 := hat 0 (by omega)
       cases sp with
       | none => rfl
       | some q => 
        exfalso
        obtain ⟨cs0, hc0, _⟩ := hi 0 (by omega)
        rw [hC] at hc0
        obtain ⟨_, hcl0, hat0⟩ := World.cells?_some hc0
        have q2 := hat0 0 (by omega)
        rw [List.getElem?_eq_getElem (by omega), Go.Deep.add_add] at q2
        simp [World.cell?, Addr.add] at q2
        split at q2 <;> simp_all
     have ha : a = ⟨a.block, a.off, none⟩ := by
      obtain ⟨b, o, sp⟩ := a
      rcases hsn with r | r
      ·simp at r; subst r; rfl
      ·subst r
       simp only [Nat.zero_mul, Nat.add_zero] at q0
       exact spot_none (j := 0) (v := .int .i64 z0) (by simpa using q0) (.inl rfl)
     have hblk : a.block < W.heap.size := by
      have := World.block_lt_of_cell? W _ (show W.cell? (a.add (i * 7 + 0)) = some (.int .i64 z0) from q0)
      rwa [blk_add] at this
     refine ⟨⟨z0, z1, z2, z3, z4, z5, ks⟩, ⟨in_of w1, in_of w2, in_of w3, in_of w4, in_of w5, hkl⟩, a.block, a.off, K, ck, ha, hblk, fun j v hv => ?_, hrow⟩
     have hj : j < 7 := (List.getElem?_eq_some_iff.1 hv).1
     have := hat j hj
     rw [Go.Deep.add_add] at this
     rw [ha, add_blk_] at this
     rw [show a.off + i * 7 + j = a.off + (i * 7 + j) by omega, this]
     exact hv)
  refine ⟨some a, cap, xs, by rw [hcs, hxl], fun i x hx => ?_, by omega⟩
  obtain ⟨h1, ab, ao, K, ck, h2, h3, h4, h5⟩ := hxs i x hx
  exact ⟨h1, ab, ao, K, ck, by rw [h2], h3, h4, h5⟩
end
end Go.Proofs.YtpidnkfcccboaaaGreat.PagerPlumb
namespace Go.Proofs.YtpidnkfcccboaaaGreat.PagerMem
open Go.RowKit Base PagePlain PageSmall FreePlain FreeMem SuperPlain SuperRefCheck PagerPlain PagerTold PagerNum PagerSpec SumOf DiskPlain DiskMem DiskSmall Go.Maps
open SumFill (Ready)
open SumMem (Only)

theorem ready_same {w w' : World} {g : Nat} {n : Int} (h : Ready w g n) (e : w'.heap[g]? = w.heap[g]?) : Ready w' g n := by
 rcases h with ⟨T, cs, ha, r⟩ | ⟨cs, ha, r⟩
 ·exact .inl ⟨T, cs, e.trans ha, r⟩
 ·exact .inr ⟨cs, e.trans ha, r⟩
/-! a set of numbers in a map -/
theorem lawI : Keyed Tryz.prog 3 := int_keyed Tryz.underlying3
theorem zeroU (w : World) : (zeroValue 103).run Tryz.prog w = .ok (.agg #[]) w := by kernel_rfl
def SetW (w : World) (b n : Nat) (l : List Int) : Prop := ∃ D : DataW Unit, w.ownsMap Tryz.prog 3 unitElem b n D ∧ ∀ z : Int, has D (.int .i64 z) = decide (z ∈ l)
theorem SetW.lt {w : World} {b n : Nat} {l : List Int} (h : SetW w b n l) : b < w.heap.size := by obtain ⟨D, h, _⟩ := h; exact h.lt
theorem SetW.same {w w' : World} {b n : Nat} {l : List Int} (h : SetW w b n l) (e : w'.heap[b]? = w.heap[b]?) : SetW w' b n l := by
 obtain ⟨D, h, r⟩ := h
 exact ⟨D, map_same h e, r⟩
theorem SetW.of {w : World} {b n : Nat} {l l' : List Int} (h : SetW w b n l) (e : ∀ z, z ∈ l' ↔ z ∈ l) : SetW w b n l' := by
 obtain ⟨D, h, r⟩ := h
 exact ⟨D, h, fun z => by rw [r z]; exact (decide_eq_decide.2 (e z)).symm⟩
theorem set_put {w : World} {b n : Nat} {l : List Int} {D D0 : DataW Unit} {y : Int} (h0 : w.ownsMap Tryz.prog 3 unitElem b n (D0.put (.int .i64 y) D)) (hm : IsMap D0) (h : ∀ z : Int, has D0 (.int .i64 z) = decide (z ∈ l)) : SetW w b n (l ++ [y]) := by
 refine ⟨_, h0, fun z => ?_⟩
 by_cases e : z = y
 ·subst e
  rw [has_put_same hm (show WideAt.IsKeyLit (.int .i64 z) from trivial)]
  simp
 ·rw [has_put_other (fun q => e (by injection q)), h z]
  simp [e]
theorem set_del {w : World} {b n : Nat} {l : List Int} {D0 : DataW Unit} {y : Int} (h0 : w.ownsMap Tryz.prog 3 unitElem b n (D0.del (.int .i64 y))) (h : ∀ z : Int, has D0 (.int .i64 z) = decide (z ∈ l)) : SetW w b n (l.filter (· ≠ y)) := by
 refine ⟨_, h0, fun z => ?_⟩
 by_cases e : z = y
 ·subst e
  rw [has_del_same]
  simp
 ·rw [has_del_other (fun q => e (by injection q)), h z]
  simp [e]

/-! the pager's block -/
abbrev pcs (P : PS) (d g mp : Nat) (A B C : Option Addr) (a b c : Nat) : Array Value :=
 #[.pointer (some ⟨d, 0, none⟩), .pointer (some ⟨g, 0, none⟩), .int .i64 P.pg, .int .i64 P.x.ep, .int .i64 P.x.root, .int .i64 P.x.free, .int .i64 P.x.pages, .slice A P.tf.length a, .slice B P.ch.length b, .slice C P.fl.length c, .map (some mp), .int .i64 P.od]
/-- blocks that are neither the caller's nor the pager's, but for its rows -/
def Out (p g mp : Nat) (FD X : Blks) : Blks := fun i => ¬ X i ∧ ¬ FD i ∧ i ≠ p ∧ i ≠ g ∧ i ≠ mp
/-- a row lies not there -/
def Off (A : Option Addr) (vs : List Value) (i : Nat) : Prop := ∀ (k : Nat) (v : Value), vs[k]? = some v → ∀ ad : Addr, A = some ad → ad.block ≠ i
/-- the pager at block p is P, over the disk S at block d, its summer at g, its set at mp; none of its blocks is of X -/
structure Cr (w : World) (p d g mp : Nat) (S : DS) (P : PS) (X : Blks) (m : Int) (nn : Nat) (FD : Blks) (A B C : Option Addr) (a b c : Nat) : Prop where
 st : At w p 59 (pcs P d g mp A B C a b c)
 dk : Dk w d S FD
 su : ∃ n, 0 ≤ n ∧ n ≤ m ∧ Ready w g n
 lo : (S.loose.length : Int) * 1000 ≤ m
 ms : SetW w mp nn P.nw
 nn : (nn : Int) ≤ m
 la : P.tf.length ≤ a
 lb : P.ch.length ≤ b
 lc : P.fl.length ≤ c
 ra : RowP w (Out p g mp FD X) A (fr P.tf)
 rb : RowP w (Out p g mp FD X) B (intsV P.ch)
 rc : RowP w (Out p g mp FD X) C (fr P.fl)
 nf : ∀ i, FD i → i < w.heap.size ∧ ¬ X i ∧ i ≠ p ∧ i ≠ g ∧ i ≠ mp
 xp : ¬ X p
 xg : ¬ X g
 xm : ¬ X mp
 pg : p ≠ g
 pm : p ≠ mp
 gm : g ≠ mp
 xl : ∀ i, X i → i < w.heap.size
/-- likewise, whatever its rows -/
def Cw (w : World) (p d g mp : Nat) (S : DS) (P : PS) (X : Blks) (m : Int) : Prop := ∃ nn FD A B C a b c, Cr w p d g mp S P X m nn FD A B C a b c
section
variable {w w' wa : World} {p d g mp : Nat} {S S' : DS} {P P' : PS} {X Y G : Blks} {m m' : Int} {nn : Nat} {FD : Blks} {A B C : Option Addr} {a b c : Nat}
theorem Cr.turn (h : Cr w p d g mp S P X m nn FD A B C a b c) (t : Turn G w w') (hG : ∀ i, i < w.heap.size → ¬ X i → ¬ G i) : Cr w' p d g mp S P X m nn FD A B C a b c := by
 obtain ⟨n, n0, n1, hr⟩ := h.su
 have hp := h.st.lt
 have hg := Ready.lt hr
 have hm := h.ms.lt
 have row : ∀ {A : Option Addr} {vs : List Value}, RowP w (Out p g mp FD X) A vs → RowP w' (Out p g mp FD X) A vs := fun q k v hv => by
  obtain ⟨ad, e1, e2, e3, e4⟩ := q k v hv
  exact ⟨ad, e1, e2, Nat.lt_of_lt_of_le e3 t.size, by rw [← e4]; exact cell_same (by rw [blk_add]; exact t.block _ e3 (hG _ e3 e2.1))⟩
 refine ⟨h.st.same (t.block p hp (hG p hp h.xp)), h.dk.kept t fun i hi hf => hG i hi (h.nf i hf).2.1, ⟨n, n0, n1, ?_⟩, h.lo, h.ms.same (t.block mp hm (hG mp hm h.xm)), h.nn, h.la, h.lb, h.lc, row h.ra, row h.rb, row h.rc,
  fun i hi => ⟨Nat.lt_of_lt_of_le (h.nf i hi).1 t.size, (h.nf i hi).2⟩, h.xp, h.xg, h.xm, h.pg, h.pm, h.gm, fun i hi => Nat.lt_of_lt_of_le (h.xl i hi) t.size⟩
 exact ready_same hr (t.block g hg (hG g hg h.xg))
theorem Cr.below (h : Cr w p d g mp S P X m nn FD A B C a b c) (hb : Below w.heap.size w w') : Cr w' p d g mp S P X m nn FD A B C a b c :=
 h.turn (G := fun _ => False) (Turn.ofBelow hb) fun _ _ _ z => z
theorem Cr.grow (h : Cr w p d g mp S P X m nn FD A B C a b c) (hY : ∀ i, Y i → i < w.heap.size ∧ (X i ∨ (¬ FD i ∧ i ≠ p ∧ i ≠ g ∧ i ≠ mp ∧ Off A (fr P.tf) i ∧ Off B (intsV P.ch) i ∧ Off C (fr P.fl) i))) : Cr w p d g mp S P Y m nn FD A B C a b c := by
 have row : ∀ {A : Option Addr} {vs : List Value}, RowP w (Out p g mp FD X) A vs → (∀ i, Y i → X i ∨ Off A vs i) → RowP w (Out p g mp FD Y) A vs := fun q hq k v hv => by
  obtain ⟨ad, e1, e2, e3, e4⟩ := q k v hv
  exact ⟨ad, e1, ⟨fun hy => (hq _ hy).elim e2.1 fun z => z k v hv ad e1 rfl, e2.2⟩, e3, e4⟩
 refine ⟨h.st, h.dk, h.su, h.lo, h.ms, h.nn, h.la, h.lb, h.lc, row h.ra fun i hi => (hY i hi).2.imp id fun z => z.2.2.2.2.1, row h.rb fun i hi => (hY i hi).2.imp id fun z => z.2.2.2.2.2.1, row h.rc fun i hi => (hY i hi).2.imp id fun z => z.2.2.2.2.2.2,
  fun i hi => ⟨(h.nf i hi).1, fun hy => (hY i hy).2.elim (h.nf i hi).2.1 fun z => z.1 hi, (h.nf i hi).2.2⟩, fun hy => (hY _ hy).2.elim h.xp fun z => z.2.1 rfl, fun hy => (hY _ hy).2.elim h.xg fun z => z.2.2.1 rfl, fun hy => (hY _ hy).2.elim h.xm fun z => z.2.2.2.1 rfl, h.pg, h.pm, h.gm, fun i hi => (hY i hi).1⟩
theorem Cr.less (h : Cr w p d g mp S P X m nn FD A B C a b c) (hY : ∀ i, Y i → X i) : Cr w p d g mp S P Y m nn FD A B C a b c :=
 h.grow fun i hi => ⟨h.xl i (hY i hi), Or.inl (hY i hi)⟩
/-- what is made is the caller's -/
theorem Cr.moreT (h : Cr w p d g mp S P X m nn FD A B C a b c) (t : Turn G w w') (hG : ∀ i, i < w.heap.size → ¬ X i → ¬ G i) : Cr w' p d g mp S P (Plus X w w') m nn FD A B C a b c := by
 obtain ⟨n, n0, n1, hr⟩ := h.su
 have hp := h.st.lt
 have hg := Ready.lt hr
 have hm := h.ms.lt
 have row : ∀ {A : Option Addr} {vs : List Value}, RowP w (Out p g mp FD X) A vs → ∀ i, w.heap.size ≤ i → Off A vs i := fun q i hi k v hv ad e => by
  obtain ⟨ad', e1, e2, e3, e4⟩ := q k v hv
  rw [e] at e1
  injection e1 with e1
  subst e1
  omega
 refine (h.turn t hG).grow fun i hi => ?_
 rcases hi with hi | ⟨hi, hl⟩
 ·exact ⟨Nat.lt_of_lt_of_le (h.xl i hi) t.size, Or.inl hi⟩
 ·exact ⟨hl, Or.inr ⟨fun z => by have := (h.nf i z).1; omega, by omega, by omega, by omega, row h.ra i hi, row h.rb i hi, row h.rc i hi⟩⟩
theorem Cr.more (h : Cr w p d g mp S P X m nn FD A B C a b c) (hb : Below w.heap.size w w') : Cr w' p d g mp S P (Plus X w w') m nn FD A B C a b c :=
 h.moreT (G := fun _ => False) (Turn.ofBelow hb) fun _ _ _ z => z
theorem Cr.up (h : Cr w p d g mp S P X m nn FD A B C a b c) (hm : m ≤ m') : Cr w p d g mp S P X m' nn FD A B C a b c := by
 obtain ⟨n, n0, n1, hr⟩ := h.su
 exact ⟨h.st, h.dk, ⟨n, n0, Int.le_trans n1 hm, hr⟩, Int.le_trans h.lo hm, h.ms, Int.le_trans h.nn hm, h.la, h.lb, h.lc, h.ra, h.rb, h.rc, h.nf, h.xp, h.xg, h.xm, h.pg, h.pm, h.gm, h.xl⟩
theorem Cw.turn (h : Cw w p d g mp S P X m) (t : Turn G w w') (hG : ∀ i, i < w.heap.size → ¬ X i → ¬ G i) : Cw w' p d g mp S P X m := by
 obtain ⟨nn, FD, A, B, C, a, b, c, h⟩ := h
 exact ⟨_, _, _, _, _, _, _, _, h.turn t hG⟩
theorem Cw.below (h : Cw w p d g mp S P X m) (hb : Below w.heap.size w w') : Cw w' p d g mp S P X m := by
 obtain ⟨nn, FD, A, B, C, a, b, c, h⟩ := h
 exact ⟨_, _, _, _, _, _, _, _, h.below hb⟩
theorem Cw.less (h : Cw w p d g mp S P X m) (hY : ∀ i, Y i → X i) : Cw w p d g mp S P Y m := by
 obtain ⟨nn, FD, A, B, C, a, b, c, h⟩ := h
 exact ⟨_, _, _, _, _, _, _, _, h.less hY⟩
theorem Cw.more (h : Cw w p d g mp S P X m) (hb : Below w.heap.size w w') : Cw w' p d g mp S P (Plus X w w') m := by
 obtain ⟨nn, FD, A, B, C, a, b, c, h⟩ := h
 exact ⟨_, _, _, _, _, _, _, _, h.more hb⟩
theorem Cw.up (h : Cw w p d g mp S P X m) (hm : m ≤ m') : Cw w p d g mp S P X m' := by
 obtain ⟨nn, FD, A, B, C, a, b, c, h⟩ := h
 exact ⟨_, _, _, _, _, _, _, _, h.up hm⟩
theorem Cw.xl (h : Cw w p d g mp S P X m) : ∀ i, X i → i < w.heap.size := by
 obtain ⟨nn, FD, A, B, C, a, b, c, h⟩ := h
 exact h.xl
theorem Cw.ok (h : Cw w p d g mp S P X m) : S.Ok := by
 obtain ⟨nn, FD, A, B, C, a, b, c, h⟩ := h
 exact h.dk.ok
theorem Cw.m0 (h : Cw w p d g mp S P X m) : 0 ≤ m := by
 obtain ⟨nn, FD, A, B, C, a, b, c, h⟩ := h
 obtain ⟨n, n0, n1, _⟩ := h.su
 omega
/-- the pager's block written anew, the rest as it was -/
theorem Cr.re {A' B' C' : Option Addr} {a' b' c' : Nat} (h : Cr w p d g mp S P X m nn FD A B C a b c) (t : Turn (fun i => i = p) w w') (hst : At w' p 59 (pcs P' d g mp A' B' C' a' b' c')) (hnw : P'.nw = P.nw) (la : P'.tf.length ≤ a') (lb : P'.ch.length ≤ b') (lc : P'.fl.length ≤ c')
  (ra : RowP w (Out p g mp FD X) A' (fr P'.tf)) (rb : RowP w (Out p g mp FD X) B' (intsV P'.ch)) (rc : RowP w (Out p g mp FD X) C' (fr P'.fl)) : Cr w' p d g mp S P' X m nn FD A' B' C' a' b' c' := by
 obtain ⟨n, n0, n1, hr⟩ := h.su
 have hg := Ready.lt hr
 have hm := h.ms.lt
 have row : ∀ {A : Option Addr} {vs : List Value}, RowP w (Out p g mp FD X) A vs → RowP w' (Out p g mp FD X) A vs := fun q k v hv => by
  obtain ⟨ad, e1, e2, e3, e4⟩ := q k v hv
  exact ⟨ad, e1, e2, Nat.lt_of_lt_of_le e3 t.size, by rw [← e4]; exact cell_same (by rw [blk_add]; exact t.block _ e3 e2.2.2.1)⟩
 exact ⟨hst, h.dk.kept t fun i hi hf z => (h.nf i hf).2.2.1 z, ⟨n, n0, n1, ready_same hr (t.block g hg fun z => h.pg z.symm)⟩, h.lo, hnw ▸ h.ms.same (t.block mp hm fun z => h.pm z.symm), h.nn, la, lb, lc, row ra, row rb, row rc,
  fun i hi => ⟨Nat.lt_of_lt_of_le (h.nf i hi).1 t.size, (h.nf i hi).2⟩, h.xp, h.xg, h.xm, h.pg, h.pm, h.gm, fun i hi => Nat.lt_of_lt_of_le (h.xl i hi) t.size⟩
/-- its set turned -/
theorem Cr.reset {n' : Nat} (h : Cr w p d g mp S P X m nn FD A B C a b c) (t : Turn (fun i => i = mp) w w') (l : List Int) (hs : SetW w' mp n' l) (hn : (n' : Int) ≤ m) : Cr w' p d g mp S { P with nw := l } X m n' FD A B C a b c := by
 obtain ⟨n, n0, n1, hr⟩ := h.su
 have hg := Ready.lt hr
 have hp := h.st.lt
 have row : ∀ {A : Option Addr} {vs : List Value}, RowP w (Out p g mp FD X) A vs → RowP w' (Out p g mp FD X) A vs := fun q k v hv => by
  obtain ⟨ad, e1, e2, e3, e4⟩ := q k v hv
  exact ⟨ad, e1, e2, Nat.lt_of_lt_of_le e3 t.size, by rw [← e4]; exact cell_same (by rw [blk_add]; exact t.block _ e3 e2.2.2.2.2)⟩
 exact ⟨h.st.same (t.block p hp h.pm), h.dk.kept t fun i hi hf z => (h.nf i hf).2.2.2.2 z, ⟨n, n0, n1, ready_same hr (t.block g hg h.gm)⟩, h.lo, hs, hn, h.la, h.lb, h.lc, row h.ra, row h.rb, row h.rc,
  fun i hi => ⟨Nat.lt_of_lt_of_le (h.nf i hi).1 t.size, (h.nf i hi).2⟩, h.xp, h.xg, h.xm, h.pg, h.pm, h.gm, fun i hi => Nat.lt_of_lt_of_le (h.xl i hi) t.size⟩
/-- its disk turned -/
theorem Cr.went (h : Cr w p d g mp S P X m nn FD A B C a b c) (hw : Went FD d w S' w') (hl : (S'.loose.length : Int) * 1000 ≤ m) : (∃ FD', Cr w' p d g mp S' P X m nn FD' A B C a b c) ∧ Turn (Not X) w w' := by
 obtain ⟨F', f1, f2, t⟩ := hw
 obtain ⟨n, n0, n1, hr⟩ := h.su
 have hg := Ready.lt hr
 have hp := h.st.lt
 have hm := h.ms.lt
 have nF : ∀ i, i < w.heap.size → ¬ FD i → ¬ F' i := fun i hi hn hf => (f1 i hf).1.elim hn fun z => by omega
 have row : ∀ {A : Option Addr} {vs : List Value}, RowP w (Out p g mp FD X) A vs → RowP w' (Out p g mp F' X) A vs := fun q k v hv => by
  obtain ⟨ad, e1, e2, e3, e4⟩ := q k v hv
  exact ⟨ad, e1, ⟨e2.1, nF _ e3 e2.2.1, e2.2.2⟩, Nat.lt_of_lt_of_le e3 t.size, by rw [← e4]; exact cell_same (by rw [blk_add]; exact t.block _ e3 e2.2.1)⟩
 have np : ∀ i, FD i → i ≠ p ∧ i ≠ g ∧ i ≠ mp := fun i hi => (h.nf i hi).2.2
 refine ⟨⟨F', h.st.same (t.block p hp fun z => (np p z).1 rfl), f2, ⟨n, n0, n1, ready_same hr (t.block g hg fun z => (np g z).2.1 rfl)⟩, hl, h.ms.same (t.block mp hm fun z => (np mp z).2.2 rfl), h.nn, h.la, h.lb, h.lc, row h.ra, row h.rb, row h.rc,
  fun i hi => ⟨(f1 i hi).2, ?_⟩, h.xp, h.xg, h.xm, h.pg, h.pm, h.gm, fun i hi => Nat.lt_of_lt_of_le (h.xl i hi) t.size⟩, t.mono fun i _ hi => (h.nf i hi).2.1⟩
 rcases (f1 i hi).1 with q | q
 ·exact (h.nf i q).2
 ·exact ⟨fun z => by have := h.xl i z; omega, by omega, by omega, by omega⟩
/-- its summer turned -/
theorem Cr.sums {n' : Int} (h : Cr w p d g mp S P X m nn FD A B C a b c) (o : Only g w w') (hr : Ready w' g n') (n0 : 0 ≤ n') (hm : n' ≤ m') (hmm : m ≤ m') : Cr w' p d g mp S P X m' nn FD A B C a b c ∧ Turn (Not X) w w' := by
 have t : Turn (fun i => i = g) w w' := Turn.ofGrown o fun k e _ => by injection e with e; exact e.symm
 have hp := h.st.lt
 have hmp := h.ms.lt
 have row : ∀ {A : Option Addr} {vs : List Value}, RowP w (Out p g mp FD X) A vs → RowP w' (Out p g mp FD X) A vs := fun q k v hv => by
  obtain ⟨ad, e1, e2, e3, e4⟩ := q k v hv
  exact ⟨ad, e1, e2, Nat.lt_of_lt_of_le e3 t.size, by rw [← e4]; exact cell_same (by rw [blk_add]; exact t.block _ e3 e2.2.2.2.1)⟩
 exact ⟨⟨h.st.same (t.block p hp h.pg), h.dk.kept t fun i hi hf z => (h.nf i hf).2.2.2.1 z, ⟨n', n0, hm, hr⟩, Int.le_trans h.lo hmm, h.ms.same (t.block mp hmp fun z => h.gm z.symm), Int.le_trans h.nn hmm, h.la, h.lb, h.lc, row h.ra, row h.rb, row h.rc,
  fun i hi => ⟨Nat.lt_of_lt_of_le (h.nf i hi).1 t.size, (h.nf i hi).2⟩, h.xp, h.xg, h.xm, h.pg, h.pm, h.gm, fun i hi => Nat.lt_of_lt_of_le (h.xl i hi) t.size⟩, t.mono fun i _ e => by rw [show i = g from e]; exact h.xg⟩
/-- a row of the caller's, as the summer's callees want it -/
theorem Cr.rowX (h : Cr w p d g mp S P X m nn FD A B C a b c) {K : Option Addr} {vs : List Value} (hr : RowP w X K vs) : RowX w g K vs := fun k v hv => by
 obtain ⟨ad, e1, e2, e3, e4⟩ := hr k v hv
 exact ⟨ad, e1, e3, fun z => h.xg (z ▸ e2), e4⟩
/-- a row that is new -/
theorem Cr.newRow (h : Cr w p d g mp S P X m nn FD A B C a b c) {K : Option Addr} {vs : List Value} (hr : RowP w' (fun i => w.heap.size ≤ i) K vs) : RowP w' (Out p g mp FD X) K vs := fun k v hv => by
 obtain ⟨n, n0, n1, hrr⟩ := h.su
 have hp := h.st.lt
 have hg := Ready.lt hrr
 have hm := h.ms.lt
 obtain ⟨ad, e1, e2, e3, e4⟩ := hr k v hv
 exact ⟨ad, e1, ⟨fun z => by have := h.xl _ z; omega, fun z => by have := (h.nf _ z).1; omega, by omega, by omega, by omega⟩, e3, e4⟩
end
theorem ownF_rowP {w : World} {base c : Nat} {A : Option Addr} {l : Fs} (h : OwnF w base A c l) : RowP w (fun i => base ≤ i) A (fr l) := fun k v hv => by
 have hr := h.row k v hv
 obtain ⟨ad, e1, e2, e3⟩ := hr
 subst e1
 exact ⟨ad, rfl, (h.block ad.block rfl).1, e2, e3⟩
/-- the disk is what the pager says that it is -/
structure Agree (S : DS) (P : PS) : Prop where
 most : S.most = P.most
 live : S.fused = false
 pg : P.pg ≤ S.last.length
 len : (S.last.length : Int) ≤ P.len
 rd : ∀ q : Nat, q < S.last.length → S.rd q = P.rd q
 rz : ∀ q : Int, (S.last.length : Int) ≤ q → P.rd q = zs
/-- a pager in memory, for the laws' walks -/
def M : Mem := fun w p d P F m => ∃ g mp S X, Cw w p d g mp S P X m ∧ Agree S P ∧ (∀ i, i < w.heap.size → ¬ F i → X i) ∧ ∀ b, F b → b < w.heap.size ∧ ¬ X b
section
variable {w w' : World} {p d g mp : Nat} {S : DS} {P P' : PS} {F G X Y N : Blks} {m m' : Int}
theorem m_keep (h : M w p d P F m) (t : Turn G w w') (hF : ∀ b, F b → ¬ G b) : M w' p d P F m := by
 obtain ⟨g, mp, S, X, ⟨nn, FD, A, B, C, a, b, c, h1⟩, h2, h3, h4⟩ := h
 refine ⟨g, mp, S, Plus X w w', ⟨_, _, _, _, _, _, _, _, h1.moreT t fun i hi hx => hF i (Classical.byContradiction fun hn => hx (h3 i hi hn))⟩, h2, fun i hi hn => ?_, fun b hb => ⟨Nat.lt_of_lt_of_le (h4 b hb).1 t.size, fun z => ?_⟩⟩
 ·rcases Nat.lt_or_ge i w.heap.size with q | q
  ·exact Or.inl (h3 i q hn)
  ·exact Or.inr ⟨q, hi⟩
 ·rcases z with z | z
  ·exact (h4 b hb).2 z
  ·have := (h4 b hb).1
   omega
theorem m_gone (hF : ∀ i, i < w.heap.size → ¬ F i → X i) (h : Cw w' p d g mp S P' Y m') (ha : Agree S P') (hY : ∀ i, X i → Y i) (t : Turn (Not X) w w') (hN : ∀ b, N b → w.heap.size ≤ b ∧ b < w'.heap.size ∧ Y b) : Gone M F w p d P' m' N w' := by
 refine ⟨fun i => i < w'.heap.size ∧ ¬ Y i, ⟨g, mp, S, Y, h, ha, fun i hi hn => Classical.byContradiction fun z => hn ⟨hi, z⟩, fun b hb => hb⟩, t.mono fun i hi hx => Classical.byContradiction fun z => hx (hF i hi z), fun b hb => ?_, fun b hb => ⟨(hN b hb).1, (hN b hb).2.1, fun z => z.2 (hN b hb).2.2⟩⟩
 rcases Nat.lt_or_ge b w.heap.size with q | q
 ·exact Or.inl (Classical.byContradiction fun z => hb.2 (hY b (hF b q z)))
 ·exact Or.inr q
theorem m_gone0 (hF : ∀ i, i < w.heap.size → ¬ F i → X i) (h : Cw w' p d g mp S P' X m') (ha : Agree S P') (t : Turn (Not X) w w') : Gone M F w p d P' m' NoB w' :=
 m_gone hF h ha (fun _ q => q) t fun _ q => q.elim
end
end Go.Proofs.YtpidnkfcccboaaaGreat.PagerMem
