/- A sort whose 'less' makes memory: what is asked of less and swap, and what a walk carries. -/
import Derived.Test.YtilcnhdfdgmekaaGreatKReg
import Derived.Sort.Defs
import Derived.Sort.Lot0
namespace Go.Proofs.YtilcnhdfdgmekaaGreat.SortKit
open Go.RowKit Base
open Go.Sort (swp size_swp)

/-- only block g, and what is new, has turned -/
abbrev Onl (g : Nat) (w w' : World) : Prop := w.grownBy w' (some g)
section
variable {a w : World} {g : Nat}
theorem Onl.refl (w : World) (g : Nat) : Onl g w w := World.grownBy.refl w _
theorem Onl.drew (h : Onl g a w) : Onl g a w.drew := ⟨h.os, h.tape, h.output, h.size, h.block⟩
theorem Onl.trans {b : World} (h : Onl g a b) (k : Onl g b w) : Onl g a w :=
  ⟨k.os.trans h.os, k.tape.trans h.tape, k.output.trans h.output, Nat.le_trans h.size k.size, fun i hi hne => (k.block i (Nat.lt_of_lt_of_le hi h.size) hne).trans (h.block i hi hne)⟩
theorem Onl.ofBelow (h : Below a.heap.size a w) : Onl g a w := ⟨h.os, h.tape, h.output, h.size, fun i hi _ => h.block i hi⟩
theorem Onl.cell (h : Onl g a w) {p : Addr} (hp : p.block < a.heap.size) (hg : p.block ≠ g) : w.cell? p = a.cell? p := World.cell?_of_block (w := a) (h.block p.block hp (fun e => hg (Option.some.inj e)))
end
section
variable {α : Type} [Inhabited α]
/-- what is asked of less (function g, bound to lb) and of swap (sf, bound to sb): the row lies in block blk; G d w: it reads as d -/
structure Srt (P : Program) (lt : α → α → Bool) (g : Nat) (lb : Array Value) (sf : Nat) (sb : Array Value) (n blk : Nat) (G : Array α → World → Prop) : Prop where
  base : ∃ m, blk < m ∧ (∀ d w, G d w → m ≤ w.heap.size) ∧ ∀ d w w', G d w → Below m w w' → G d w'
  enter : ∀ args w, (callFunc g args).run P w = .ok (.enter g args) w
  less : ∀ d w, G d w → d.size = n → ∀ i j : Nat, i < n → j < n → Calls P g (#[.int .i64 i, .int .i64 j] ++ lb) w fun e w' => e = .returned (.bool (lt d[i]! d[j]!)) ∧ Below w.heap.size w w'
  swap : ∀ d w, G d w → d.size = n → ∀ i j : Nat, i < n → j < n → ∃ w', (callFunc sf (#[.int .i64 i, .int .i64 j] ++ sb)).run P w = .ok (.value (.tuple #[])) w' ∧ G (swp d i j) w' ∧ Onl blk w w'
  few : n < 4611686018427387904
theorem Srt.below {P : Program} {lt : α → α → Bool} {g : Nat} {lb : Array Value} {sf : Nat} {sb : Array Value} {n blk : Nat} {G : Array α → World → Prop} (S : Srt P lt g lb sf sb n blk G) (d : Array α) (w w' : World) (h : G d w) (hb : Below w.heap.size w w') : G d w' := by
  obtain ⟨m, _, h2, h3⟩ := S.base
  exact h3 d w w' h (hb.mono (h2 d w h))
theorem Srt.inb {P : Program} {lt : α → α → Bool} {g : Nat} {lb : Array Value} {sf : Nat} {sb : Array Value} {n blk : Nat} {G : Array α → World → Prop} (S : Srt P lt g lb sf sb n blk G) (d : Array α) (w : World) (h : G d w) : blk < w.heap.size := by
  obtain ⟨m, h1, h2, _⟩ := S.base
  exact Nat.lt_of_lt_of_le h1 (h2 d w h)
/-- what a walk carries: the row reads as d, nothing else has turned since W, and the boxed pair of less and swap lies in block B -/
structure At (G : Array α → World → Prop) (blk B : Nat) (L S : Value) (W : World) (d : Array α) (w : World) : Prop where
  row : G d w
  onl : Onl blk W w
  ne : B ≠ blk
  l : w.cell? ⟨B, 0, none⟩ = some L
  s : w.cell? ⟨B, 1, none⟩ = some S
  inw : B < w.heap.size
variable {G : Array α → World → Prop} {blk B : Nat} {L S : Value} {W w w' : World} {d d' : Array α}
omit [Inhabited α] in
theorem At.below (h : At G blk B L S W d w) (hG : ∀ d w w', G d w → Below w.heap.size w w' → G d w') (hb : Below w.heap.size w w') : At G blk B L S W d w' :=
  ⟨hG _ _ _ h.row hb, h.onl.trans (.ofBelow hb), h.ne, (hb.cell h.inw).trans h.l, (hb.cell h.inw).trans h.s, Nat.lt_of_lt_of_le h.inw hb.size⟩
omit [Inhabited α] in
theorem At.drew (h : At G blk B L S W d w) (hG : ∀ d w w', G d w → Below w.heap.size w w' → G d w') : At G blk B L S W d w.drew := h.below hG (Below.refl _ _).drew
omit [Inhabited α] in
theorem At.drewN (h : At G blk B L S W d w) (hG : ∀ d w w', G d w → Below w.heap.size w w' → G d w') (n : Nat) : At G blk B L S W d (w.drewN n) := h.below hG ⟨rfl, rfl, rfl, Nat.le_refl _, fun _ _ => rfl⟩
omit [Inhabited α] in
theorem At.turn (h : At G blk B L S W d w) (hG : G d' w') (ho : Onl blk w w') : At G blk B L S W d' w' :=
  ⟨hG, h.onl.trans ho, h.ne, (ho.cell h.inw h.ne).trans h.l, (ho.cell h.inw h.ne).trans h.s, Nat.lt_of_lt_of_le h.inw ho.size⟩
theorem At.cells {P : Program} {lt : α → α → Bool} {g : Nat} {lb : Array Value} {sf : Nat} {sb : Array Value} {n : Nat} (h : At G blk B L S W d w) (K : Srt P lt g lb sf sb n blk G) :
    (∀ q, (w.drewN q).cell? ⟨B, 0, none⟩ = some L) ∧ (∀ q, (w.drewN q).cell? ⟨B, 1, none⟩ = some S) ∧ w.cell? ⟨B, 0, none⟩ = some L ∧ w.cell? ⟨B, 1, none⟩ = some S :=
  ⟨fun q => (h.drewN K.below q).l, fun q => (h.drewN K.below q).s, h.l, h.s⟩
theorem At.less {P : Program} {lt : α → α → Bool} {g : Nat} {lb : Array Value} {sf : Nat} {sb : Array Value} {n : Nat} (h : At G blk B L S W d w) (K : Srt P lt g lb sf sb n blk G) (hs : d.size = n) {i j : Nat} (hi : i < n) (hj : j < n) {x y : Int} (hx : x = i) (hy : y = j) {r : Bool} (hr : lt d[i]! d[j]! = r) :
    Calls P g (#[.int .i64 x, .int .i64 y] ++ lb) w fun e w' => e = .returned (.bool r) ∧ At G blk B L S W d w' := by
  subst hx hy hr
  refine (K.less d w h.row hs i j hi hj).mono ?_
  rintro e w' ⟨rfl, hb⟩
  exact ⟨rfl, h.below K.below hb⟩
theorem At.swap {P : Program} {lt : α → α → Bool} {g : Nat} {lb : Array Value} {sf : Nat} {sb : Array Value} {n : Nat} (h : At G blk B L S W d w) (K : Srt P lt g lb sf sb n blk G) (hs : d.size = n) {i j : Nat} (hi : i < n) (hj : j < n) {x y : Int} (hx : x = i) (hy : y = j) :
    ∃ w', (callFunc sf (#[.int .i64 x, .int .i64 y] ++ sb)).run P w = .ok (.value (.tuple #[])) w' ∧ At G blk B L S W (swp d i j) w' := by
  subst hx hy
  obtain ⟨w', hr, hG, ho⟩ := K.swap d w h.row hs i j hi hj
  exact ⟨w', hr, h.turn hG ho⟩
theorem At.size (h : d.size = d'.size) (i j : Nat) : (swp d i j).size = d'.size := (size_swp d i j).trans h
end
end Go.Proofs.YtilcnhdfdgmekaaGreat.SortKit
