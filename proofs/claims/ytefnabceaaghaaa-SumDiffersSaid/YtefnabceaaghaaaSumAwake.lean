/- The examples of layer 2's chapter. -/
import Derived.Test.YtefnabceaaghaaaSumOf
namespace Go.Proofs.Ytefnabceaaghaaa.SumAwake
open Go.RowKit SumPlain Base SumLeft SumMem SumFill SumOf

theorem sum_nine : sum [49, 50, 51, 52, 53, 54, 55, 56, 57] = 3421780262 := by decide +kernel
theorem sum_a : sum [97] = 3904355907 := by decide +kernel

set_option maxRecDepth 100000 in
set_option maxHeartbeats 1600000 in
theorem awake_any (w : World) : Calls Try.prog 10 #[] w fun e w' => e = .returned (.bool true) ∧ Below w.heap.size w w' := by
  have kc := fun (w : World) (C : Array Value) (n c : Nat) => Lib.run_convert_bytes_const (P := Try.prog) w 28 5 C n c Try.underlying28 Try.underlying5
  go_enter Try.func10, Try.ntmps10
  go_wp2_with fail
  refine (new_g _).mono ?_
  rintro e w1 ⟨g, rfl, hg, hg1, s1, b1⟩
  go_wp2_with fail
  refine (of_any g 0 _ _ 9 9 [49, 50, 51, 52, 53, 54, 55, 56, 57] (s1.below ((Below.refl _ _).alloc (Nat.le_refl _) _)) (by omega) (by omega) (by simp) rfl (by exact row_new w1 g hg1 _ _ _ _ rfl) (by simp; omega)).mono ?_
  rintro e w2 ⟨rfl, d2, o2⟩
  rw [sum_nine]
  have d2' : Done w2 g 9 := d2
  have b2 : Below w.heap.size w w2 := (b1.alloc b1.size _).trans (o2.below hg (by simp; omega))
  clear d2 o2 s1 b1 hg1
  have hg2 := d2'.lt
  go_wp2_with fail
  refine (of_any g 9 _ _ 1 1 [97] (.inr (d2'.below ((Below.refl _ _).alloc (Nat.le_refl _) _))) (by omega) (by omega) (by simp) rfl (by exact row_new w2 g hg2 _ _ _ _ rfl) (by simp; omega)).mono ?_
  rintro e w3 ⟨rfl, d3, o3⟩
  rw [sum_a]
  have d3' : Done w3 g 10 := d3
  have b3 : Below w.heap.size w w3 := (b2.alloc b2.size _).trans (o3.below hg (by simp; omega))
  clear d3 o3 d2' b2 hg2
  have hg3 := d3'.lt
  go_wp2_with fail
  refine (of_any g 10 _ _ 0 0 [] (.inr d3') (by omega) (by omega) (by simp) rfl RowX.nil hg3).mono ?_
  rintro e w4 ⟨rfl, d4, o4⟩
  rw [sum_nil]
  have d4' : Done w4 g 10 := d4
  have b4 : Below w.heap.size w w4 := b3.trans (o4.below hg hg3)
  clear d4 o4 d3' b3 hg3
  have hg4 := d4'.lt
  go_wp2_with fail
  refine (count_any g 1 0 10 _ _ d4').mono ?_
  rintro e w5 ⟨rfl, rfl⟩
  go_wp2_with fail
  refine (right_any g 10 _ _ 1 1 [97] 3904355907 (.inr (d4'.below ((Below.refl _ _).alloc (Nat.le_refl _) _))) (by omega) (by omega) (by simp) rfl (by exact row_new w4 g hg4 _ _ _ _ rfl) (by simp; omega)).mono ?_
  rintro e w6 ⟨rfl, d6, o6⟩
  rw [show decide (sum [97] = 3904355907) = true from decide_eq_true sum_a]
  have b6 : Below w.heap.size w w6 := (b4.alloc b4.size _).trans (o6.below hg (by simp; omega))
  clear d6 o6 d4' b4 hg4 kc
  go_wp2_with fail
  go_ret
  exact ⟨rfl, b6⟩
end Go.Proofs.Ytefnabceaaghaaa.SumAwake
