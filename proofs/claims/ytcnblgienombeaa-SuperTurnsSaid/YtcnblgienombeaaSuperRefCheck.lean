/- The contract of the document's Check of supers. -/
import Derived.Test.YtcnblgienombeaaSuperPlain
namespace Go.Proofs.Ytcnblgienombeaa.SuperRefCheck
open Go.RowKit Base SuperPlain

abbrev sv (x : Sp) : Value := .agg #[.int .i64 x.ep, .int .i64 x.root, .int .i64 x.free, .int .i64 x.pages]
theorem al (w : World) (o : Obj) : Below w.heap.size w (w.alloc o) := (Below.refl _ _).alloc (Nat.le_refl _) _
set_option maxRecDepth 100000 in
set_option maxHeartbeats 6400000 in
theorem rcheck_any (W : World) (x : Sp) : Calls Try.prog 11 #[sv x] W fun e w' => e = .returned (.bool (decide (Ok x))) ∧ Below W.heap.size W w' := by
  obtain ⟨ep, root, free, pages⟩ := x
  go_enter Try.func11, Try.ntmps11
  go_wp2
  all_goals (go_ret; first | exact ⟨ret_bool (decide_eq_true (by unfold Ok; simp only; omega)).symm, al _ _⟩ | exact ⟨ret_bool (decide_eq_false (by unfold Ok; simp only; omega)).symm, al _ _⟩ | exact ⟨ret_bool (by rw [Bool.eq_iff_iff, decide_eq_true_iff]; unfold Ok; simp only [Bool.or_eq_true, beq_iff_eq, decide_eq_true_eq]; omega), al _ _⟩)
end Go.Proofs.Ytcnblgienombeaa.SuperRefCheck
