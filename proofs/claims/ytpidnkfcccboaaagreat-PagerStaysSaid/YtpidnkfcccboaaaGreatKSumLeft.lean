/- Contracts of layer 2's small functions: left, New, the locks of a once, the count. -/
import Derived.Test.YtpidnkfcccboaaaGreatKPagePlain
import Derived.Test.YtpidnkfcccboaaaGreatKPlumb
import Derived.Test.YtpidnkfcccboaaaGreatRows
import Derived.Laws.BitsAllLaws
namespace Go.Proofs.YtpidnkfcccboaaaGreat.SumLeft
open Go.RowKit SumPlain Base

theorem and_one (r : Nat) (h : r < 4294967296) : bits .and .u32 (r : Int) 1 = ((r % 2 : Nat) : Int) := by
 have := u32_and_nat r 1 h (by omega)
 rw [Nat.and_one_is_mod] at this
 exact this

set_option maxHeartbeats 400000 in
theorem left_any (r : Nat) (w : World) (hr : r < 4294967296) :
  Calls Tryz.prog 143 #[.int .u32 r] w fun e w' => e = .returned (.int .u32 (iter 8 r : Nat)) ∧ w = w' := by
 go_enter Tryz.func143, Tryz.ntmps143
 go_wp2_with fail
 go_loop [0, 4] (fun v i => ∃ k : Nat, k ≤ 8 ∧ i = .int .i64 k ∧ v = .int .u32 (iter k r : Nat)) (fun _ i => 8 - (intOf i).toNat)
 case atStart => exact ⟨0, by omega, rfl, rfl⟩
 case round =>
  obtain ⟨k, hk, rfl, rfl⟩ := hrel
  by_cases hlt : k < 8
  ·have hx : iter k r < 4294967296 := iter_lt k hr
   have HN := Lib.hid (iter_last k r)
   generalize iter k r = m at hx HN
   have hm := and_one m hx
   by_cases hb : m % 2 = 1
   ·have hq : (bits .and .u32 (m : Int) 1 == 1) = true := by rw [hm, hb]; rfl
    have HX := Lib.hid (show bits .xor .u32 ((m : Int) / 2) 3988292384 = ((iter (k + 1) r : Nat) : Int) by
     rw [HN.out, show ((m : Int) / 2) = ((m / 2 : Nat) : Int) by omega, show (3988292384 : Int) = ((3988292384 : Nat) : Int) from rfl, u32_xor_nat _ _ (by omega) (by omega)]
     unfold step1
     rw [if_pos (by simp [Nat.testBit_zero, hb]), Nat.shiftRight_eq_div_pow]; rfl)
    clear hm hb
    go_wp2_with fail
    go_round
    case rel => exact ⟨k + 1, by omega, by go_num, by rw [← HX.out]⟩
    case measure => simp [intOf]; omega
   ·have hq : (bits .and .u32 (m : Int) 1 == 1) = false := by rw [hm, show m % 2 = 0 by omega]; rfl
    have HX := Lib.hid (show ((m : Int) / 2) = ((iter (k + 1) r : Nat) : Int) by
     rw [HN.out, show ((m : Int) / 2) = ((m / 2 : Nat) : Int) by omega]
     unfold step1
     rw [if_neg (by simp [Nat.testBit_zero]; omega), Nat.shiftRight_eq_div_pow]; simp)
    clear hm hb
    go_wp2_with fail
    go_round
    case rel => exact ⟨k + 1, by omega, by go_num, by rw [← HX.out]⟩
    case measure => simp [intOf]; omega
  ·obtain rfl : k = 8 := by omega
   go_wp2_with fail
   go_ret
   exact ⟨rfl, rfl⟩
end Go.Proofs.YtpidnkfcccboaaaGreat.SumLeft
