/- Worlds of which only some blocks have turned. -/
import Derived.Test.YtkmnbdomikpakaaDoorKReg
namespace Go.Proofs.YtkmnbdomikpakaaDoor.TurnB
open Go.RowKit Base

theorem heap_lt {w : World} {b : Nat} {o : Obj} (h : w.heap[b]? = some o) : b < w.heap.size := (Array.getElem?_eq_some_iff.1 h).1
/-- only blocks of F, and what is new, have turned -/
structure Turn (F : Nat → Prop) (w w' : World) : Prop where
  os : w'.os = w.os
  tape : w'.tape = w.tape
  output : w'.output = w.output
  size : w.heap.size ≤ w'.heap.size
  block : ∀ k, k < w.heap.size → ¬ F k → w'.heap[k]? = w.heap[k]?
section
variable {F G : Nat → Prop} {a b w : World}
theorem Turn.refl (F : Nat → Prop) (w : World) : Turn F w w := ⟨rfl, rfl, rfl, Nat.le_refl _, fun _ _ _ => rfl⟩
theorem Turn.trans {c : World} (h : Turn F a b) (k : Turn G b c) (hG : ∀ i, i < a.heap.size → G i → F i) : Turn F a c :=
  ⟨k.os.trans h.os, k.tape.trans h.tape, k.output.trans h.output, Nat.le_trans h.size k.size, fun i hi hn => (k.block i (Nat.lt_of_lt_of_le hi h.size) (fun g => hn (hG i hi g))).trans (h.block i hi hn)⟩
theorem Turn.step {c : World} (h : Turn F a b) (k : Turn F b c) : Turn F a c := h.trans k fun _ _ g => g
theorem Turn.mono (h : Turn F a b) (hG : ∀ i, i < a.heap.size → F i → G i) : Turn G a b := ⟨h.os, h.tape, h.output, h.size, fun i hi hn => h.block i hi fun f => hn (hG i hi f)⟩
theorem Turn.drew (h : Turn F a w) : Turn F a w.drew := ⟨h.os, h.tape, h.output, h.size, h.block⟩
theorem Turn.drewN (h : Turn F a w) (n : Nat) : Turn F a (w.drewN n) := ⟨h.os, h.tape, h.output, h.size, h.block⟩
theorem Turn.alloc (h : Turn F a w) (o : Obj) : Turn F a (w.alloc o) :=
  ⟨h.os, h.tape, h.output, Nat.le_trans h.size (by simp), fun i hi hn => (Below.heap_alloc w o i (Nat.lt_of_lt_of_le hi h.size)).trans (h.block i hi hn)⟩
theorem Turn.set (h : Turn F a w) (p : Addr) (hp : a.heap.size ≤ p.block ∨ F p.block) (u : Value) : Turn F a (w.setCell p u) :=
  ⟨h.os, h.tape, h.output, by simpa [World.setCell] using h.size, fun i hi hn => (Below.heap_setCell w p u i (by rintro rfl; exact hp.elim (fun q => by omega) hn)).trans (h.block i hi hn)⟩
theorem Turn.ofGrown {row : Option Nat} (h : a.grownBy w row) (hr : ∀ k, row = some k → k < a.heap.size → F k) : Turn F a w := ⟨h.os, h.tape, h.output, h.size, fun i hi hn => h.block i hi (fun e => hn (hr i e.symm hi))⟩
theorem Turn.ofBelow (h : Below a.heap.size a w) : Turn F a w := ⟨h.os, h.tape, h.output, h.size, fun i hi _ => h.block i hi⟩
theorem Turn.below (h : Turn F a w) {B : Nat} (hB : B ≤ a.heap.size) (hF : ∀ k, F k → B ≤ k) : Below B a w := ⟨h.os, h.tape, h.output, h.size, fun i hi => h.block i (by omega) (fun f => by have := hF i f; omega)⟩
theorem Turn.belowOf (h : Turn F a w) {W : World} {B : Nat} (hb : Below B W a) (hB : B ≤ a.heap.size) (hF : ∀ k, F k → B ≤ k) : Below B W w := hb.trans (h.below hB hF)
/-- what lies in a block that has not turned -/
theorem Turn.at (h : Turn F a w) {k : Nat} {o : Obj} (hk : a.heap[k]? = some o) (hn : ¬ F k) : w.heap[k]? = some o := (h.block k (heap_lt hk) hn).trans hk
theorem Turn.still (h : Turn (fun _ => False) a w) : Below a.heap.size a w := h.below (Nat.le_refl _) fun _ h => h.elim
end
end Go.Proofs.YtkmnbdomikpakaaDoor.TurnB
