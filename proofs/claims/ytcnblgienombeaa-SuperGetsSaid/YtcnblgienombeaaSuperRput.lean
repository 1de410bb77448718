/- The document's Put of any page, whatever its cells. -/
import Derived.Test.YtcnblgienombeaaPageRefPut
namespace Go.Proofs.Ytcnblgienombeaa.SuperRput
open Go.RowKit Base PagePlain PageSmall Str PagePut PageRef PageFour PageRefPut1 PageRefPut

set_option maxHeartbeats 800000 in
theorem rfits_big (w : World) (A : Option Addr) (m c : Nat) (cs : List ByteArray) (hm : m = cs.length) (hr : Row w w.heap.size A (strs cs)) (hl : cs.length ≤ 1000) (hz : ¬ ∀ q ∈ cs, q.size ≤ 235) :
    Calls Try.prog 26 #[.slice A m c] w fun e w' => e = .returned (.bool false) ∧ w = w' := by
  subst hm
  have HZ := Lib.hid hz
  clear hz
  go_enter Try.func26, Try.ntmps26
  go_wp2_with fail
  go_loop [3] (fun i => ∃ k : Nat, k ≤ cs.length ∧ i = .int .i64 k ∧ ∀ j (h : j < cs.length), j < k → cs[j].size ≤ 235) (fun i => cs.length - (intOf i).toNat)
  case atStart => exact ⟨0, by omega, rfl, fun j _ h => by omega⟩
  case round =>
    obtain ⟨k, hk, rfl, hall⟩ := hrel
    have HA := Lib.hid hall
    clear hall
    by_cases hlt : k < cs.length
    · obtain ⟨ad, rfl, hb, hc⟩ := strs_get hr k hlt
      by_cases h5 : cs[k].size ≤ 235
      · have HN := Lib.hid (show ∀ j (h : j < cs.length), j < k + 1 → cs[j].size ≤ 235 from fun j h hj => by
          rcases Nat.lt_or_ge j k with q | q
          · exact HA.out j h q
          · obtain rfl : j = k := by omega
            exact h5)
        generalize cs[k] = q at *
        go_wp2_with fail
        go_round
        case rel => exact ⟨k + 1, by omega, by go_num, HN.out⟩
        case measure => simp [intOf]; omega
      · generalize cs[k] = q at *
        have h5' : (235 : Int) < (q.size : Int) := by omega
        go_wp2_with fail
        go_ret
        exact ⟨rfl, rfl⟩
    · exfalso
      refine HZ.out fun q hq => ?_
      obtain ⟨j, hj, rfl⟩ := List.getElem_of_mem hq
      exact HA.out j hj (by omega)
set_option maxRecDepth 100000 in
set_option maxHeartbeats 3200000 in
theorem rput_big (w : World) (p : Pg) (A : Option Addr) (c : Nat) (hr : Row w w.heap.size A (strs p.cells)) (hl : p.cells.length ≤ 1000) (hz : ¬ ∀ q ∈ p.cells, q.size ≤ 235) : Calls Try.prog 15 #[pv p A c] w fun e w' => e = .returned (.tuple #[.string ⟨#[]⟩, .int .i64 40]) ∧ Below w.heap.size w w' := by
  have HC := Lib.hid (box_at w p A c)
  have hb : Below w.heap.size w (w.alloc (.cells #[.int .i64 p.kind, .int .i64 p.no, .int .i64 p.epoch, .int .i64 p.link, .slice A p.cells.length c] 37)) := (Below.refl _ _).alloc (Nat.le_refl _) _
  obtain ⟨w1, hw1⟩ : ∃ v, v = w.alloc (.cells #[.int .i64 p.kind, .int .i64 p.no, .int .i64 p.epoch, .int .i64 p.link, .slice A p.cells.length c] 37) := ⟨_, rfl⟩
  rw [← hw1] at HC hb
  have HW := Lib.hid hw1
  clear hw1
  have hfi := rfits_big w1 A p.cells.length c p.cells rfl (hr.belowSize hb) hl hz
  go_enter Try.func15, Try.ntmps15
  go_wp2_with fail
  rw [← HW.out]
  refine hfi.mono ?_
  rintro e w' ⟨rfl, rfl⟩
  clear hfi
  go_wp2_with fail
  go_ret2
  exact ⟨rfl, hb⟩
/-- any page: its bytes, or an error -/
theorem rput_all (w : World) (p : Pg) (A : Option Addr) (c : Nat) (hr : Row w w.heap.size A (strs p.cells)) (hl : p.cells.length ≤ 1000) :
    Calls Try.prog 15 #[pv p A c] w fun e w' => ((err p = 0 ∧ e = .returned (.tuple #[.string (tx (page p)), .int .i64 0])) ∨ (err p ≠ 0 ∧ e = .returned (.tuple #[.string ⟨#[]⟩, .int .i64 (err p)]))) ∧ Below w.heap.size w w' := by
  by_cases h : room p.cells ≤ 236
  · have hz : ∀ q ∈ p.cells, q.size ≤ 1000 := fun q hq => by have := size_tot hq; omega
    by_cases ho : PgOk p
    · exact (rput_good w p A c hr hl hz h ho).mono fun e w' ⟨h1, h2⟩ => ⟨.inl ⟨(err_zero p).2 ⟨h, ho⟩, h1⟩, h2⟩
    · have e1 : err p = 41 := by unfold err; rw [if_pos h, if_neg ho]
      rw [e1]
      exact (rput_form w p A c hr hl hz h ho).mono fun e w' ⟨h1, h2⟩ => ⟨.inr ⟨by decide, h1⟩, h2⟩
  · have e1 : err p = 40 := by unfold err; rw [if_neg h]
    rw [e1]
    by_cases hz : ∀ q ∈ p.cells, q.size ≤ 235
    · exact (rput_long w p A c hr hl (fun q hq => Nat.le_trans (hz q hq) (by decide)) h).mono fun e w' ⟨h1, h2⟩ => ⟨.inr ⟨by decide, h1⟩, h2⟩
    · exact (rput_big w p A c hr hl hz).mono fun e w' ⟨h1, h2⟩ => ⟨.inr ⟨by decide, h1⟩, h2⟩
end Go.Proofs.Ytcnblgienombeaa.SuperRput
