/- The contracts of the document's Room, Fits and Same. -/
import Derived.Test.YtcnblgienombeaaPageSame2
namespace Go.Proofs.Ytcnblgienombeaa.PageRef
open Go.RowKit Base PagePlain PageSmall Str PageSame
open PageSame2

set_option maxHeartbeats 800000 in
theorem rroom_any (w : World) (A : Option Addr) (m c : Nat) (cs : List ByteArray) (hm : m = cs.length) (hr : Row w w.heap.size A (strs cs)) (hl : cs.length ≤ 1000) (hz : ∀ q ∈ cs, q.size ≤ 1000) :
    Calls Try.prog 41 #[.slice A m c] w fun e w' => e = .returned (.int .i64 (room cs : Nat)) ∧ w = w' := by
  subst hm
  have ht := tot_le cs 1000 hz
  go_enter Try.func41, Try.ntmps41
  go_wp2_with fail
  go_loop [3, 4] (fun v i => ∃ k : Nat, k ≤ cs.length ∧ i = .int .i64 k ∧ v = .int .i64 ((2 * cs.length + tot (cs.take k) : Nat) : Int)) (fun _ i => cs.length - (intOf i).toNat)
  case atStart => exact ⟨0, by omega, rfl, by simp [tot]⟩
  case round =>
    obtain ⟨k, hk, rfl, rfl⟩ := hrel
    by_cases hlt : k < cs.length
    · have HT := Lib.hid (tot_take cs k hlt)
      have h1 : tot (cs.take (k + 1)) ≤ tot cs := by
        have := tot_append (cs.take (k + 1)) (cs.drop (k + 1)); rw [List.take_append_drop] at this; omega
      rw [HT.out] at h1
      obtain ⟨ad, rfl, hb, hc⟩ := strs_get hr k hlt
      generalize cs[k] = q at *
      generalize tot (cs.take k) = t at *
      generalize cs.length = n at *
      go_wp2_with fail
      go_round
      case rel => exact ⟨k + 1, by omega, by go_num, by rw [HT.out]; go_num⟩
      case measure => simp [intOf]; omega
    · obtain rfl : k = cs.length := by omega
      rw [List.take_of_length_le (Nat.le_refl _)]
      go_wp2_with fail
      go_ret
      exact ⟨ret_int (by unfold room; rfl), rfl⟩
set_option maxHeartbeats 800000 in
theorem rfits_any (w : World) (A : Option Addr) (m c : Nat) (cs : List ByteArray) (hm : m = cs.length) (hr : Row w w.heap.size A (strs cs)) (hl : cs.length ≤ 1000) (hz : ∀ q ∈ cs, q.size ≤ 1000) :
    Calls Try.prog 26 #[.slice A m c] w fun e w' => e = .returned (.bool (decide (room cs ≤ 236))) ∧ w = w' := by
  subst hm
  have hh := rroom_any w A _ c cs rfl hr hl hz
  have HD := Lib.hid (show decide (room cs ≤ 236) = true ↔ room cs ≤ 236 from decide_eq_true_iff)
  generalize hD : decide (room cs ≤ 236) = D at *
  have HDD := Lib.hid hD
  clear hD hz
  go_enter Try.func26, Try.ntmps26
  go_wp2_with fail
  go_loop [3] (fun i => ∃ k : Nat, k ≤ cs.length ∧ i = .int .i64 k) (fun i => cs.length - (intOf i).toNat)
  case atStart => exact ⟨0, by omega, rfl⟩
  case round =>
    obtain ⟨k, hk, rfl⟩ := hrel
    by_cases hlt : k < cs.length
    · obtain ⟨ad, rfl, hb, hc⟩ := strs_get hr k hlt
      have hsz := size_tot (List.getElem_mem hlt)
      by_cases h5 : cs[k].size ≤ 235
      · clear hsz
        generalize cs[k] = q at *
        clear hh
        go_wp2_with fail
        go_round
        case rel => exact ⟨k + 1, by omega, by go_num⟩
        case measure => simp [intOf]; omega
      · have HN := Lib.hid (show D = false by
          rw [Bool.eq_false_iff]
          intro q
          have := HD.out.1 q
          omega)
        clear hsz hh
        generalize cs[k] = q at *
        have h5' : (235 : Int) < (q.size : Int) := by omega
        go_wp2_with fail
        go_ret
        exact ⟨ret_bool HN.out.symm, rfl⟩
    · obtain rfl : k = cs.length := by omega
      go_wp2_with fail
      refine hh.mono ?_
      rintro e w' ⟨rfl, rfl⟩
      clear hh
      go_wp2_with fail
      go_ret
      exact ⟨ret_bool (by rw [← HDD.out]; exact decide_eq_decide.2 (by omega)), rfl⟩

end Go.Proofs.Ytcnblgienombeaa.PageRef
