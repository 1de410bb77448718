/- A summer in memory: one block whose cells are known, kept over what a call does. -/
import Derived.Test.YtcnblgienombeaaRows
import Derived.Test.YtcnblgienombeaaSumLeft
import Derived.Defers
import Derived.RegionCalls
import Derived.Deep.RegionWith
import Derived.Laws.LoneSync
import Derived.Laws.NewBlocks
namespace Go.Proofs.Ytcnblgienombeaa.SumMem
open Go.RowKit SumPlain Base

/-- block g is the cells cs of a thing of type t, none of them frozen -/
def At (w : World) (g : Nat) (t : TypeId) (cs : Array Value) : Prop := w.heap[g]? = some (.cells cs t (0, 0))
section
variable {w w' : World} {g : Nat} {t : TypeId} {cs : Array Value}
theorem At.lt (h : At w g t cs) : g < w.heap.size := by
  rcases Nat.lt_or_ge g w.heap.size with hl | hl
  · exact hl
  · unfold At at h; rw [Array.getElem?_eq_none hl] at h; cases h
theorem At.cell (h : At w g t cs) (i : Nat) : w.cell? ⟨g, i, none⟩ = cs[i]? := by unfold At at h; simp [World.cell?, h]
theorem At.frozen (h : At w g t cs) (i : Nat) : w.frozen? ⟨g, i, none⟩ = false := by unfold At at h; simp [World.frozen?, h]
theorem At.set (h : At w g t cs) (i : Nat) (u : Value) : At (w.setCell ⟨g, i, none⟩ u) g t (cs.setIfInBounds i u) := by
  unfold At at h ⊢
  simp [World.setCell, Array.getElem?_modify, h]
theorem At.grown {row : Option Nat} (h : At w g t cs) (hb : w.grownBy w' row) (hg : some g ≠ row) : At w' g t cs := (hb.block g h.lt hg).trans h
end
/-- the summer at block g: done, its lock's word, what was counted, and its table -/
def Sm (w : World) (g : Nat) (d s n : Int) (T : Nat → Int) : Prop :=
  ∃ cs, At w g 68 cs ∧ cs.size = 260 ∧ cs[0]? = some (.int .u32 d) ∧ cs[1]? = some (.int .i32 s) ∧ (∀ i, i < 256 → cs[3 + i]? = some (.int .u32 (T i))) ∧ cs[259]? = some (.int .i64 n)
section
variable {w w' : World} {g : Nat} {d s n : Int} {T : Nat → Int}
theorem Sm.lt (h : Sm w g d s n T) : g < w.heap.size := by obtain ⟨cs, h, _⟩ := h; exact h.lt
theorem Sm.cell0 (h : Sm w g d s n T) : w.cell? ⟨g, 0, none⟩ = some (.int .u32 d) := by obtain ⟨cs, h, _, h0, _⟩ := h; rw [h.cell, h0]
theorem Sm.cell1 (h : Sm w g d s n T) : w.cell? ⟨g, 1, none⟩ = some (.int .i32 s) := by obtain ⟨cs, h, _, _, h0, _⟩ := h; rw [h.cell, h0]
theorem Sm.cellT (h : Sm w g d s n T) (i : Nat) (hi : i < 256) : w.cell? ⟨g, 3 + i, none⟩ = some (.int .u32 (T i)) := by obtain ⟨cs, h, _, _, _, h0, _⟩ := h; rw [h.cell, h0 i hi]
theorem Sm.cellN (h : Sm w g d s n T) : w.cell? ⟨g, 259, none⟩ = some (.int .i64 n) := by obtain ⟨cs, h, _, _, _, _, h0⟩ := h; rw [h.cell, h0]
theorem Sm.frozen (h : Sm w g d s n T) (i : Nat) : w.frozen? ⟨g, i, none⟩ = false := by obtain ⟨cs, h, _⟩ := h; exact h.frozen i
theorem Sm.set0 (h : Sm w g d s n T) (d' : Int) : Sm (w.setCell ⟨g, 0, none⟩ (.int .u32 d')) g d' s n T := by
  obtain ⟨cs, h, hz, h0, h1, h2, h3⟩ := h
  refine ⟨_, h.set 0 _, by simpa using hz, by simp [hz], by simpa using h1, fun i hi => ?_, by simpa using h3⟩
  rw [Array.getElem?_setIfInBounds_ne (by omega)]; exact h2 i hi
theorem Sm.set1 (h : Sm w g d s n T) (s' : Int) : Sm (w.setCell ⟨g, 1, none⟩ (.int .i32 s')) g d s' n T := by
  obtain ⟨cs, h, hz, h0, h1, h2, h3⟩ := h
  refine ⟨_, h.set 1 _, by simpa using hz, by simpa using h0, by simp [hz], fun i hi => ?_, by simpa using h3⟩
  rw [Array.getElem?_setIfInBounds_ne (by omega)]; exact h2 i hi
theorem Sm.setN (h : Sm w g d s n T) (n' : Int) : Sm (w.setCell ⟨g, 259, none⟩ (.int .i64 n')) g d s n' T := by
  obtain ⟨cs, h, hz, h0, h1, h2, h3⟩ := h
  refine ⟨_, h.set 259 _, by simpa using hz, by simpa using h0, by simpa using h1, fun i hi => ?_, by simp [hz]⟩
  rw [Array.getElem?_setIfInBounds_ne (by omega)]; exact h2 i hi
theorem Sm.setT (h : Sm w g d s n T) (k : Nat) (hk : k < 256) (v : Int) : Sm (w.setCell ⟨g, 3 + k, none⟩ (.int .u32 v)) g d s n (fun i => if i = k then v else T i) := by
  obtain ⟨cs, h, hz, h0, h1, h2, h3⟩ := h
  refine ⟨_, h.set (3 + k) _, by simpa using hz, ?_, ?_, fun i hi => ?_, ?_⟩
  · rw [Array.getElem?_setIfInBounds_ne (by omega)]; exact h0
  · rw [Array.getElem?_setIfInBounds_ne (by omega)]; exact h1
  · by_cases e : i = k
    · subst e; rw [Array.getElem?_setIfInBounds_self_of_lt (by omega)]; simp
    · rw [Array.getElem?_setIfInBounds_ne (by omega)]; simp only [if_neg e]; exact h2 i hi
  · rw [Array.getElem?_setIfInBounds_ne (by omega)]; exact h3
theorem Sm.grown {row : Option Nat} (h : Sm w g d s n T) (hb : w.grownBy w' row) (hg : some g ≠ row) : Sm w' g d s n T := by
  obtain ⟨cs, h, r⟩ := h
  exact ⟨cs, h.grown hb hg, r⟩
theorem Sm.below (h : Sm w g d s n T) (hb : Below w.heap.size w w') : Sm w' g d s n T := by
  obtain ⟨cs, h, r⟩ := h
  exact ⟨cs, (hb.block g h.lt).trans h, r⟩
theorem Sm.drewN (h : Sm w g d s n T) (k : Nat) : Sm (w.drewN k) g d s n T := h
theorem Sm.drew (h : Sm w g d s n T) : Sm w.drew g d s n T := h
theorem Sm.congr (h : Sm w g d s n T) {T' : Nat → Int} (e : ∀ i, i < 256 → T i = T' i) : Sm w g d s n T' := by
  obtain ⟨cs, h, hz, h0, h1, h2, h3⟩ := h
  exact ⟨cs, h, hz, h0, h1, fun i hi => by rw [h2 i hi, e i hi], h3⟩
end
/-- only block g, and what is new, has turned -/
abbrev Only (g : Nat) (w w' : World) : Prop := w.grownBy w' (some g)
section
variable {a w : World} {g : Nat}
theorem Only.refl (w : World) (g : Nat) : Only g w w := World.grownBy.refl w _
theorem Only.drew (h : Only g a w) : Only g a w.drew := ⟨h.os, h.tape, h.output, h.size, h.block⟩
theorem Only.drewN (h : Only g a w) (n : Nat) : Only g a (w.drewN n) := ⟨h.os, h.tape, h.output, h.size, h.block⟩
theorem Only.alloc (h : Only g a w) (o : Obj) : Only g a (w.alloc o) :=
  ⟨h.os, h.tape, h.output, Nat.le_trans h.size (by simp), fun i hi hne => (Below.heap_alloc w o i (Nat.lt_of_lt_of_le hi h.size)).trans (h.block i hi hne)⟩
theorem Only.set (h : Only g a w) (k : Nat) (u : Value) : Only g a (w.setCell ⟨g, k, none⟩ u) :=
  ⟨h.os, h.tape, h.output, by simpa [World.setCell] using h.size, fun i hi hne => (Below.heap_setCell w ⟨g, k, none⟩ u i (by rintro rfl; exact hne rfl)).trans (h.block i hi hne)⟩
theorem Only.trans {b : World} (h : Only g a b) (k : Only g b w) : Only g a w :=
  ⟨k.os.trans h.os, k.tape.trans h.tape, k.output.trans h.output, Nat.le_trans h.size k.size, fun i hi hne => (k.block i (Nat.lt_of_lt_of_le hi h.size) hne).trans (h.block i hi hne)⟩
theorem Only.ofBelow (h : Below a.heap.size a w) : Only g a w := ⟨h.os, h.tape, h.output, h.size, fun i hi _ => h.block i hi⟩
theorem Only.below (h : Only g a w) {B : Nat} (hB : B ≤ g) (ha : g < a.heap.size) : Below B a w := ⟨h.os, h.tape, h.output, h.size, fun i hi => h.block i (by omega) (fun e => by injection e with e; omega)⟩
end

/-! the locks of a once -/
theorem disable (w : World) : (callFunc 66 #[]).run Try.prog w = .ok (.value (.tuple #[])) w := run_call_mark0 Try.func66 (by kernel_rfl) (by kernel_rfl) (by kernel_rfl) .disable (by kernel_rfl) w
theorem enable (w : World) : (callFunc 68 #[]).run Try.prog w = .ok (.value (.tuple #[])) w := run_call_mark0 Try.func68 (by kernel_rfl) (by kernel_rfl) (by kernel_rfl) .enable (by kernel_rfl) w
theorem acquire (a : Addr) (w : World) : (callFunc 69 #[.pointer (some a)]).run Try.prog w = .ok (.value (.tuple #[])) w := run_call_marked Try.func69 (by kernel_rfl) (by kernel_rfl) (by kernel_rfl) .acquire (by kernel_rfl) a w
theorem releaseMerge (a : Addr) (w : World) : (callFunc 71 #[.pointer (some a)]).run Try.prog w = .ok (.value (.tuple #[])) w := run_call_marked Try.func71 (by kernel_rfl) (by kernel_rfl) (by kernel_rfl) .releaseMerge (by kernel_rfl) a w

theorem store_deferred (a : Addr) (x : Value) (u : FrameMode) (w : World) (hc : w.cell? a = some x) (hz : w.frozen? a = false) :
    CallsD Try.prog 61 #[.pointer (some a), .bool true] u w fun e u' w' => u' = u ∧ (e = .returned (.tuple #[]) ∧ w' = w.drew.setCell a (.int .u32 1)) := by
  have hc' : w.drew.cell? a = some x := by go_simp
  have hz' : w.drew.frozen? a = false := by go_simp
  have hst := run_call_store (P := Try.prog) Try.func64 (by kernel_rfl) (by kernel_rfl) (by kernel_rfl) (by kernel_rfl) (k := .u32) (y := 1) hc' hz'
  go_enter_d Try.func61, Try.ntmps61
  go_wp2
  go_region_calls
  all_goals (go_end0; exact ⟨rfl, rfl⟩)

set_option maxRecDepth 100000 in
theorem unlock_deferred (a : Addr) (u : FrameMode) (w : World) (hc : w.cell? a = some (.int .i32 1)) (hz : w.frozen? a = false) :
    CallsD Try.prog 60 #[.pointer (some a)] u w fun e u' w' => u' = u ∧ (e = .returned (.tuple #[]) ∧ w' = w.setCell a (.int .i32 0)) := by
  have hd := disable
  have he := enable
  have hr := releaseMerge
  have hadd := run_call_add (P := Try.prog) Try.func72 (by kernel_rfl) (by kernel_rfl) (by kernel_rfl) .i32 (by kernel_rfl) (y := -1) (s := 0) hc hz (by simp [go_sem]; rfl)
  have hcv := run_convert_to_unsafe (P := Try.prog) (src := 122) (dst := 126) Try.underlying122 Try.underlying126 (by kernel_rfl) hc
  go_enter_d Try.func60, Try.ntmps60
  go_wp2
  go_end0
  go_wp2
  go_end0
  exact ⟨rfl, rfl⟩

set_option maxRecDepth 100000 in
theorem lock_free (a : Addr) (w : World) (hc : w.cell? a = some (.int .i32 0)) (hz : w.frozen? a = false) :
    Calls Try.prog 59 #[.pointer (some a)] w fun e w' => e = .returned (.tuple #[]) ∧ w' = w.setCell a (.int .i32 1) := by
  have hd := disable
  have he := enable
  have ha := acquire
  have hcas := run_call_cas_hit (P := Try.prog) Try.func67 (by kernel_rfl) (by kernel_rfl) (by kernel_rfl) .i32 (by kernel_rfl) (y := 1) hc hz
  have hc' : (w.setCell a (.int .i32 1)).cell? a = some (.int .i32 1) := World.cell?_setCell_same w a _ hc
  have hcv := run_convert_to_unsafe (P := Try.prog) (src := 122) (dst := 126) Try.underlying122 Try.underlying126 (by kernel_rfl) hc'
  go_enter Try.func59, Try.ntmps59
  go_wp2
  first | go_end0 | (simp only [Exit.inBlock, Exit.then]; refine bodyPost_ret (results_none rfl _ _ _) rfl ?_) | refine bodyPost_ret (results_none rfl _ _ _) rfl ?_
  go_wp2
  go_end0
  exact ⟨rfl, rfl⟩
end Go.Proofs.Ytcnblgienombeaa.SumMem
