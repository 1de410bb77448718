/- The contracts of the small functions: numbers compared, the closures. -/
import Derived.Test.YtffbmabhlgfjkaaFreeMem
namespace Go.Proofs.Ytffbmabhlgfjkaa.FreeFn
open Go.RowKit Base FreePlain FreeMem

def cmp (x y : Int) : Int := if x < y then -1 else if y < x then 1 else 0
theorem isnan_any (W : World) (x : Int) : Calls Try.prog 39 #[.int .i64 x] W fun e w' => e = .returned (.bool false) ∧ w' = W := by
  go_enter Try.func39, Try.ntmps39
  go_wp2
  go_ret
  exact ⟨ret_bool (by simp), rfl⟩
theorem compare_any (W : World) (x y : Int) : Calls Try.prog 28 #[.int .i64 x, .int .i64 y] W fun e w' => e = .returned (.int .i64 (cmp x y)) ∧ w' = W := by
  rcases Int.lt_trichotomy x y with h | h | h
  · have h2 : cmp x y = -1 := by simp [cmp, h]
    rw [h2]
    go_enter Try.func28, Try.ntmps28
    go_wp2_with (go_at_call 39; refine (isnan_any _ _).mono ?_; rintro e w' ⟨rfl, rfl⟩)
    go_ret
    exact ⟨rfl, rfl⟩
  · subst h
    have h2 : cmp x x = 0 := by simp [cmp]
    rw [h2]
    go_enter Try.func28, Try.ntmps28
    go_wp2_with (go_at_call 39; refine (isnan_any _ _).mono ?_; rintro e w' ⟨rfl, rfl⟩)
    go_ret
    exact ⟨rfl, rfl⟩
  · have h1 : ¬ x < y := by omega
    have h2 : cmp x y = 1 := by simp [cmp, h, h1]
    rw [h2]
    go_enter Try.func28, Try.ntmps28
    go_wp2_with (go_at_call 39; refine (isnan_any _ _).mono ?_; rintro e w' ⟨rfl, rfl⟩)
    go_ret
    exact ⟨rfl, rfl⟩
/-- by their pages -/
theorem by_page (W : World) (p1 p2 g : Int) : Calls Try.prog 27 #[.agg #[.int .i64 p1, .int .i64 p2], .int .i64 g] W fun e w' => e = .returned (.int .i64 (cmp p1 g)) ∧ Below W.heap.size W w' := by
  have b1 := al W (.cells #[.int .i64 p1, .int .i64 p2] 25)
  go_enter Try.func27, Try.ntmps27
  go_wp2_with (go_at_call 28; refine (compare_any _ _ _).mono ?_; rintro e w' ⟨rfl, rfl⟩)
  go_ret
  exact ⟨rfl, b1⟩
/-- a test made of the oldest epoch -/
def clo (B : Nat) : Value := .func (.func 41) #[] #[.pointer (some ⟨B, 0, none⟩)]
theorem at_any (W : World) (o : Int) : Calls Try.prog 31 #[.int .i64 o] W fun e w' => e = .returned (clo W.heap.size) ∧ w' = W.alloc (.cells #[.int .i64 o] 3) := by
  have hmf : ∀ (fn : Fn) (first cap : Array Value) (w : World), (Instr.makeFunc fn first cap).run Try.prog w = .ok (.func fn first cap) w := fun _ _ _ _ => rfl
  go_enter Try.func31, Try.ntmps31
  go_wp2
  go_ret
  exact ⟨rfl, rfl⟩
/-- the test -/
theorem test_any (W : World) (B : Nat) (o p1 p2 : Int) (hB : B < W.heap.size) (hc : W.cell? ⟨B, 0, none⟩ = some (.int .i64 o)) :
    Calls Try.prog 41 #[.agg #[.int .i64 p1, .int .i64 p2], .pointer (some ⟨B, 0, none⟩)] W fun e w' => e = .returned (.bool (decide (p2 ≤ o))) ∧ Below W.heap.size W w' := by
  have b1 := al W (.cells #[.int .i64 p1, .int .i64 p2] 25)
  have hne : B ≠ W.heap.size := by omega
  go_enter Try.func41, Try.ntmps41
  go_wp2
  go_ret
  exact ⟨rfl, b1⟩
end Go.Proofs.Ytffbmabhlgfjkaa.FreeFn
