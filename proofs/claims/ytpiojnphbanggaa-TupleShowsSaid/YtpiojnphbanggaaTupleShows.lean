/- The walk of TupleShows. -/
import Derived.Test.YtpiojnphbanggaaTupleUse
namespace Go.Proofs.Ytpiojnphbanggaa.TupleShows
open Go.RowKit Base KeyPlain TuplePlain TupleRef TupleSpec TupleEq TupleUse

set_option maxRecDepth 100000 in
set_option maxHeartbeats 12800000 in
theorem shows_any (X : Specs) (t : Tp) (W : World) : Calls Try.prog 3 #[.agg (tc t)] W (Law W) := by
  obtain ⟨w0, hw0⟩ : ∃ v, v = W.alloc (.cells (tc t) 25) := ⟨_, rfl⟩
  obtain ⟨b, hbe⟩ : ∃ v, v = W.heap.size := ⟨_, rfl⟩
  have hB : Below W.heap.size W w0 := by rw [hw0]; exact al _ _
  have hT : Tb w0 b t := by rw [hw0, hbe]; exact Tb.new W t
  have HW := Lib.hid hw0
  have HBE := Lib.hid hbe
  clear hw0 hbe
  unfold Law
  unfold tc at HW ⊢
  go_enter Try.func3, Try.ntmps3
  go_upto_region 1 with fail
  try rw [← HW.out]
  try rw [← HBE.out]
  clear HW
  have hcall := awake_any X w0
  unfold Law at hcall
  go_wp2_with fail
  (with_reducible refine hcall.mono ?_)
  clear hcall
  rintro e w1 ⟨rfl, bb⟩
  have hB := hB.trans (bb.mono hB.size)
  have hT := hT.below bb
  clear bb
  have hcall := few_any t w1
  unfold tc at hcall
  by_cases hfew : Few t
  rotate_left
  · rw [decide_eq_false hfew] at hcall
    clear hfew
    obtain ⟨d0, d1, d2, d3, d4, d5⟩ := hT.six
    go_wp2_with fail
    (with_reducible refine hcall.mono ?_)
    clear hcall
    clear d0 d1 d2 d3 d4 d5
    rintro e w2 ⟨rfl, bb⟩
    have hB := hB.trans (bb.mono hB.size)
    have hT := hT.below bb
    clear bb
    have hcall := awake_any X w2
    unfold Law at hcall
    go_wp2_with fail
    (with_reducible refine hcall.mono ?_)
    clear hcall
    rintro e w3 ⟨rfl, bb⟩
    have HB := Lib.hid (hB.trans (bb.mono hB.size))
    clear bb hB hT
    go_wp2_with fail
    go_ret
    exact ⟨rfl, HB.out⟩
  rw [decide_eq_true hfew] at hcall
  have htf := hfew.tpf
  clear hfew
  obtain ⟨d0, d1, d2, d3, d4, d5⟩ := hT.six
  go_wp2_with fail
  (with_reducible refine hcall.mono ?_)
  clear hcall
  clear d0 d1 d2 d3 d4 d5
  rintro e w2 ⟨rfl, bb⟩
  have hB := hB.trans (bb.mono hB.size)
  have hT := hT.below bb
  clear bb
  have huf : UsF t.u := htf.2.2.2
  have HTF := Lib.hid htf
  have HUF := Lib.hid huf
  clear htf huf
  obtain ⟨tok, hok⟩ : ∃ v, t.ok = v := ⟨_, rfl⟩
  obtain ⟨uok, huk⟩ : ∃ v, t.u.ok = v := ⟨_, rfl⟩
  cases tok with
  | false =>
    cases uok with
    | false =>
      have HOK := Lib.hid hok
      have HUK := Lib.hid huk
      clear hok huk
      have hcall := show_no X w2 HTF.out HOK.out
      unfold tc at hcall
      obtain ⟨d0, d1, d2, d3, d4, d5⟩ := hT.six
      go_wp2_with fail
      (with_reducible refine hcall.mono ?_)
      clear hcall
      clear d0 d1 d2 d3 d4 d5
      rintro e w3 ⟨rfl, bb⟩
      have hB := hB.trans (bb.mono hB.size)
      have hT := hT.below bb
      clear bb
      have hcall := showUser_no X w3 HUF.out HUK.out
      unfold uc at hcall
      obtain ⟨d0, d1, d2, d3, d4, d5⟩ := hT.six
      go_wp2_with fail
      (with_reducible refine hcall.mono ?_)
      clear hcall
      clear d0 d1 d2 d3 d4 d5
      rintro e w4 ⟨rfl, bb⟩
      have hB := hB.trans (bb.mono hB.size)
      have hT := hT.below bb
      clear bb
      have hcall := check_no X w4 HTF.out HOK.out
      unfold tc at hcall
      obtain ⟨d0, d1, d2, d3, d4, d5⟩ := hT.six
      go_wp2_with fail
      (with_reducible refine hcall.mono ?_)
      clear hcall
      clear d0 d1 d2 d3 d4 d5
      rintro e w5 ⟨rfl, bb⟩
      have hB := hB.trans (bb.mono hB.size)
      have hT := hT.below bb
      clear bb
      have hcall := refUser_any t.u w5 HUF.out
      rw [HUK.out] at hcall
      unfold uc at hcall
      obtain ⟨d0, d1, d2, d3, d4, d5⟩ := hT.six
      go_wp2_with fail
      (with_reducible refine hcall.mono ?_)
      clear hcall
      clear d0 d1 d2 d3 d4 d5
      rintro e w6 ⟨rfl, bb⟩
      have hB := hB.trans (bb.mono hB.size)
      have hT := hT.below bb
      clear bb
      have hcall := refCheck_any t w6 HTF.out
      rw [HOK.out] at hcall
      unfold tc at hcall
      obtain ⟨d0, d1, d2, d3, d4, d5⟩ := hT.six
      go_wp2_with fail
      (with_reducible refine hcall.mono ?_)
      clear hcall
      clear d0 d1 d2 d3 d4 d5
      rintro e w7 ⟨rfl, bb⟩
      have hB := hB.trans (bb.mono hB.size)
      have hT := hT.below bb
      clear bb
      have HB := Lib.hid hB
      clear hB hT
      go_wp2_with fail
      go_ret
      exact ⟨rfl, HB.out⟩
    | true =>
      have HOK := Lib.hid hok
      have HUK := Lib.hid huk
      clear hok huk
      obtain ⟨us, hus⟩ : ∃ v : ByteArray, v = ⟨t.u.show.toArray⟩ := ⟨_, rfl⟩
      have HUS := Lib.hid hus
      have ue : (us.toList == us.toList) = true := by simp
      have une : (us.toList != us.toList) = false := by simp
      clear hus
      have hcall := show_no X w2 HTF.out HOK.out
      unfold tc at hcall
      obtain ⟨d0, d1, d2, d3, d4, d5⟩ := hT.six
      go_wp2_with fail
      (with_reducible refine hcall.mono ?_)
      clear hcall
      clear d0 d1 d2 d3 d4 d5
      rintro e w3 ⟨rfl, bb⟩
      have hB := hB.trans (bb.mono hB.size)
      have hT := hT.below bb
      clear bb
      have hcall := showUser_yes X w3 HUF.out HUK.out
      rw [← HUS.out] at hcall
      unfold uc at hcall
      obtain ⟨d0, d1, d2, d3, d4, d5⟩ := hT.six
      go_wp2_with fail
      (with_reducible refine hcall.mono ?_)
      clear hcall
      clear d0 d1 d2 d3 d4 d5
      rintro e w4 ⟨rfl, bb⟩
      have hB := hB.trans (bb.mono hB.size)
      have hT := hT.below bb
      clear bb
      have hcall := check_no X w4 HTF.out HOK.out
      unfold tc at hcall
      obtain ⟨d0, d1, d2, d3, d4, d5⟩ := hT.six
      go_wp2_with fail
      (with_reducible refine hcall.mono ?_)
      clear hcall
      clear d0 d1 d2 d3 d4 d5
      rintro e w5 ⟨rfl, bb⟩
      have hB := hB.trans (bb.mono hB.size)
      have hT := hT.below bb
      clear bb
      have hcall := refUser_any t.u w5 HUF.out
      rw [HUK.out] at hcall
      unfold uc at hcall
      obtain ⟨d0, d1, d2, d3, d4, d5⟩ := hT.six
      go_wp2_with fail
      (with_reducible refine hcall.mono ?_)
      clear hcall
      clear d0 d1 d2 d3 d4 d5
      rintro e w6 ⟨rfl, bb⟩
      have hB := hB.trans (bb.mono hB.size)
      have hT := hT.below bb
      clear bb
      have hcall := readUser_yes X w6 HUK.out
      rw [← HUS.out] at hcall
      unfold uc at hcall
      go_wp2_with fail
      (with_reducible refine hcall.mono ?_)
      clear hcall
      rintro e w7 ⟨rfl, bb⟩
      have hB := hB.trans (bb.mono hB.size)
      have hT := hT.below bb
      clear bb
      obtain ⟨w8, hw⟩ : ∃ v, v = w7.alloc (.cells (uc t.u) 23) := ⟨_, rfl⟩
      have bb : Below w7.heap.size w7 w8 := by rw [hw]; exact al _ _
      obtain ⟨bu, hbx⟩ : ∃ v, v = w7.heap.size := ⟨_, rfl⟩
      have hbu : Ub w8 bu t.u := by rw [hw, hbx]; exact Ub.new w7 _
      have hB := hB.trans (bb.mono hB.size)
      have hT := hT.below bb
      have HW := Lib.hid hw
      have HBX := Lib.hid hbx
      clear hw hbx bb
      unfold uc at HW
      go_upto_region 8 with fail
      try rw [← HW.out]
      try rw [← HBX.out]
      clear HW
      have hne := us_ne t.u t.u
      rw [decide_eq_true rfl] at hne
      unfold uc at hne
      have hcall := refShowUser_any t.u w8 HUF.out
      rw [← HUS.out] at hcall
      unfold uc at hcall
      obtain ⟨d0, d1, d2, d3, d4, d5⟩ := hT.six
      go_wp2_with fail
      (with_reducible refine hcall.mono ?_)
      clear hcall
      clear d0 d1 d2 d3 d4 d5
      rintro e w9 ⟨rfl, bb⟩
      have hB := hB.trans (bb.mono hB.size)
      have hT := hT.below bb
      have hbu := hbu.below bb
      clear bb
      obtain ⟨c0, c1, c2⟩ := hbu.three
      obtain ⟨d0, d1, d2, d3, d4, d5⟩ := hT.six
      have hcall := refCheck_any t w9 HTF.out
      rw [HOK.out] at hcall
      unfold tc at hcall
      go_wp2_with fail
      (with_reducible refine hcall.mono ?_)
      clear hcall
      clear d0 d1 d2 d3 d4 d5
      clear c0 c1 c2
      rintro e w10 ⟨rfl, bb⟩
      have hB := hB.trans (bb.mono hB.size)
      have hT := hT.below bb
      have hbu := hbu.below bb
      clear bb
      have HB := Lib.hid hB
      clear hB hT
      go_wp2_with fail
      go_ret
      exact ⟨rfl, HB.out⟩
  | true =>
    obtain rfl : uok = true := by rw [← huk]; exact (t.okE hok).2.2.2
    have HOK := Lib.hid hok
    have HUK := Lib.hid huk
    clear hok huk
    obtain ⟨us, hus⟩ : ∃ v : ByteArray, v = ⟨t.u.show.toArray⟩ := ⟨_, rfl⟩
    have HUS := Lib.hid hus
    have ue : (us.toList == us.toList) = true := by simp
    have une : (us.toList != us.toList) = false := by simp
    clear hus
    obtain ⟨ts, hts⟩ : ∃ v : ByteArray, v = ⟨t.show.toArray⟩ := ⟨_, rfl⟩
    have HTS := Lib.hid hts
    have te : (ts.toList == ts.toList) = true := by simp
    clear hts
    have hcall := show_yes X w2 HTF.out HOK.out
    rw [← HTS.out] at hcall
    unfold tc at hcall
    obtain ⟨d0, d1, d2, d3, d4, d5⟩ := hT.six
    go_wp2_with fail
    (with_reducible refine hcall.mono ?_)
    clear hcall
    clear d0 d1 d2 d3 d4 d5
    rintro e w3 ⟨rfl, bb⟩
    have hB := hB.trans (bb.mono hB.size)
    have hT := hT.below bb
    clear bb
    have hcall := showUser_yes X w3 HUF.out HUK.out
    rw [← HUS.out] at hcall
    unfold uc at hcall
    obtain ⟨d0, d1, d2, d3, d4, d5⟩ := hT.six
    go_wp2_with fail
    (with_reducible refine hcall.mono ?_)
    clear hcall
    clear d0 d1 d2 d3 d4 d5
    rintro e w4 ⟨rfl, bb⟩
    have hB := hB.trans (bb.mono hB.size)
    have hT := hT.below bb
    clear bb
    have hcall := check_yes X w4 HTF.out HOK.out
    unfold tc at hcall
    obtain ⟨d0, d1, d2, d3, d4, d5⟩ := hT.six
    go_wp2_with fail
    (with_reducible refine hcall.mono ?_)
    clear hcall
    clear d0 d1 d2 d3 d4 d5
    rintro e w5 ⟨rfl, bb⟩
    have hB := hB.trans (bb.mono hB.size)
    have hT := hT.below bb
    clear bb
    have hcall := refUser_any t.u w5 HUF.out
    rw [HUK.out] at hcall
    unfold uc at hcall
    obtain ⟨d0, d1, d2, d3, d4, d5⟩ := hT.six
    go_wp2_with fail
    (with_reducible refine hcall.mono ?_)
    clear hcall
    clear d0 d1 d2 d3 d4 d5
    rintro e w6 ⟨rfl, bb⟩
    have hB := hB.trans (bb.mono hB.size)
    have hT := hT.below bb
    clear bb
    have hcall := readUser_yes X w6 HUK.out
    rw [← HUS.out] at hcall
    unfold uc at hcall
    go_wp2_with fail
    (with_reducible refine hcall.mono ?_)
    clear hcall
    rintro e w7 ⟨rfl, bb⟩
    have hB := hB.trans (bb.mono hB.size)
    have hT := hT.below bb
    clear bb
    obtain ⟨w8, hw⟩ : ∃ v, v = w7.alloc (.cells (uc t.u) 23) := ⟨_, rfl⟩
    have bb : Below w7.heap.size w7 w8 := by rw [hw]; exact al _ _
    obtain ⟨bu, hbx⟩ : ∃ v, v = w7.heap.size := ⟨_, rfl⟩
    have hbu : Ub w8 bu t.u := by rw [hw, hbx]; exact Ub.new w7 _
    have hB := hB.trans (bb.mono hB.size)
    have hT := hT.below bb
    have HW := Lib.hid hw
    have HBX := Lib.hid hbx
    clear hw hbx bb
    unfold uc at HW
    go_upto_region 8 with fail
    try rw [← HW.out]
    try rw [← HBX.out]
    clear HW
    have hne := us_ne t.u t.u
    rw [decide_eq_true rfl] at hne
    unfold uc at hne
    have hcall := refShowUser_any t.u w8 HUF.out
    rw [← HUS.out] at hcall
    unfold uc at hcall
    obtain ⟨d0, d1, d2, d3, d4, d5⟩ := hT.six
    go_wp2_with fail
    (with_reducible refine hcall.mono ?_)
    clear hcall
    clear d0 d1 d2 d3 d4 d5
    rintro e w9 ⟨rfl, bb⟩
    have hB := hB.trans (bb.mono hB.size)
    have hT := hT.below bb
    have hbu := hbu.below bb
    clear bb
    obtain ⟨c0, c1, c2⟩ := hbu.three
    obtain ⟨d0, d1, d2, d3, d4, d5⟩ := hT.six
    have hcall := refCheck_any t w9 HTF.out
    rw [HOK.out] at hcall
    unfold tc at hcall
    go_wp2_with fail
    (with_reducible refine hcall.mono ?_)
    clear hcall
    clear d0 d1 d2 d3 d4 d5
    clear c0 c1 c2
    rintro e w10 ⟨rfl, bb⟩
    have hB := hB.trans (bb.mono hB.size)
    have hT := hT.below bb
    have hbu := hbu.below bb
    clear bb
    have hcall := read_yes X w10 HOK.out
    rw [← HTS.out] at hcall
    unfold tc at hcall
    go_wp2_with fail
    (with_reducible refine hcall.mono ?_)
    clear hcall
    rintro e w11 ⟨rfl, bb⟩
    have hB := hB.trans (bb.mono hB.size)
    have hT := hT.below bb
    have hbu := hbu.below bb
    clear bb
    obtain ⟨w12, hw⟩ : ∃ v, v = w11.alloc (.cells (tc t) 25) := ⟨_, rfl⟩
    have bb : Below w11.heap.size w11 w12 := by rw [hw]; exact al _ _
    obtain ⟨bt, hbx⟩ : ∃ v, v = w11.heap.size := ⟨_, rfl⟩
    have hbt : Tb w12 bt t := by rw [hw, hbx]; exact Tb.new w11 _
    have hB := hB.trans (bb.mono hB.size)
    have hT := hT.below bb
    have hbu := hbu.below bb
    have HW := Lib.hid hw
    have HBX := Lib.hid hbx
    clear hw hbx bb
    unfold tc at HW
    go_upto_region 15 with fail
    try rw [← HW.out]
    try rw [← HBX.out]
    clear HW
    have heq := tp_eq t t
    rw [decide_eq_true rfl] at heq
    unfold tc at heq
    have hcall := refShow_any t w12 HTF.out
    rw [← HTS.out] at hcall
    unfold tc at hcall
    obtain ⟨d0, d1, d2, d3, d4, d5⟩ := hT.six
    go_wp2_with fail
    (with_reducible refine hcall.mono ?_)
    clear hcall
    clear d0 d1 d2 d3 d4 d5
    rintro e w13 ⟨rfl, bb⟩
    have hB := hB.trans (bb.mono hB.size)
    have hT := hT.below bb
    have hbt := hbt.below bb
    clear bb
    obtain ⟨d0, d1, d2, d3, d4, d5⟩ := hT.six
    obtain ⟨c0, c1, c2, c3, c4, c5⟩ := hbt.six
    have HB := Lib.hid hB
    clear hB hT hbt hbu
    go_wp2_with fail
    go_ret
    exact ⟨rfl, HB.out⟩
end Go.Proofs.Ytpiojnphbanggaa.TupleShows
