/- The walk of TupleKeys. -/
import Derived.Test.YtpiojnphbanggaaTupleUse
namespace Go.Proofs.Ytpiojnphbanggaa.TupleKeys
open Go.RowKit Base KeyPlain TuplePlain TupleRef TupleSpec TupleEq TupleUse

set_option maxRecDepth 100000 in
set_option maxHeartbeats 12800000 in
theorem keys_any (X : Specs) (t : Tp) (W : World) : Calls Try.prog 5 #[.agg (tc t)] W (Law W) := by
  obtain ⟨w0, hw0⟩ : ∃ v, v = W.alloc (.cells (tc t) 25) := ⟨_, rfl⟩
  obtain ⟨b, hbe⟩ : ∃ v, v = W.heap.size := ⟨_, rfl⟩
  have hB : Below W.heap.size W w0 := by rw [hw0]; exact al _ _
  have hT : Tb w0 b t := by rw [hw0, hbe]; exact Tb.new W t
  have HW := Lib.hid hw0
  have HBE := Lib.hid hbe
  clear hw0 hbe
  unfold Law
  unfold tc at HW ⊢
  go_enter Try.func5, Try.ntmps5
  go_upto_region 1 with fail
  try rw [← HW.out]
  try rw [← HBE.out]
  clear HW
  have hcall := awake_any X w0
  unfold Law at hcall
  go_wp2_with fail
  (with_reducible refine hcall.mono ?_)
  clear hcall
  rintro e w1 ⟨rfl, bb⟩
  have hB := hB.trans (bb.mono hB.size)
  have hT := hT.below bb
  clear bb
  have hcall := few_any t w1
  unfold tc at hcall
  by_cases hfew : Few t
  rotate_left
  · rw [decide_eq_false hfew] at hcall
    clear hfew
    obtain ⟨d0, d1, d2, d3, d4, d5⟩ := hT.six
    go_wp2_with fail
    (with_reducible refine hcall.mono ?_)
    clear hcall
    clear d0 d1 d2 d3 d4 d5
    rintro e w2 ⟨rfl, bb⟩
    have hB := hB.trans (bb.mono hB.size)
    have hT := hT.below bb
    clear bb
    have hcall := awake_any X w2
    unfold Law at hcall
    go_wp2_with fail
    (with_reducible refine hcall.mono ?_)
    clear hcall
    rintro e w3 ⟨rfl, bb⟩
    have HB := Lib.hid (hB.trans (bb.mono hB.size))
    clear bb hB hT
    go_wp2_with fail
    go_ret
    exact ⟨rfl, HB.out⟩
  rw [decide_eq_true hfew] at hcall
  have htf := hfew.tpf
  clear hfew
  obtain ⟨d0, d1, d2, d3, d4, d5⟩ := hT.six
  go_wp2_with fail
  (with_reducible refine hcall.mono ?_)
  clear hcall
  clear d0 d1 d2 d3 d4 d5
  rintro e w2 ⟨rfl, bb⟩
  have hB := hB.trans (bb.mono hB.size)
  have hT := hT.below bb
  clear bb
  have huf : UsF t.u := htf.2.2.2
  have HTF := Lib.hid htf
  have HUF := Lib.hid huf
  clear htf huf
  obtain ⟨tok, hok⟩ : ∃ v, t.ok = v := ⟨_, rfl⟩
  have HOK := Lib.hid hok
  cases tok with
  | false =>
    clear hok
    have hcall := key_no X w2 HTF.out HOK.out
    unfold tc at hcall
    obtain ⟨d0, d1, d2, d3, d4, d5⟩ := hT.six
    go_wp2_with fail
    (with_reducible refine hcall.mono ?_)
    clear hcall
    clear d0 d1 d2 d3 d4 d5
    rintro e w3 ⟨rfl, bb⟩
    have hB := hB.trans (bb.mono hB.size)
    have hT := hT.below bb
    clear bb
    have hcall := back_no X w3 HTF.out HOK.out
    unfold tc at hcall
    obtain ⟨d0, d1, d2, d3, d4, d5⟩ := hT.six
    go_wp2_with fail
    (with_reducible refine hcall.mono ?_)
    clear hcall
    clear d0 d1 d2 d3 d4 d5
    rintro e w4 ⟨rfl, bb⟩
    have hB := hB.trans (bb.mono hB.size)
    have hT := hT.below bb
    clear bb
    have hcall := refCheck_any t w4 HTF.out
    rw [HOK.out] at hcall
    unfold tc at hcall
    obtain ⟨d0, d1, d2, d3, d4, d5⟩ := hT.six
    go_wp2_with fail
    (with_reducible refine hcall.mono ?_)
    clear hcall
    clear d0 d1 d2 d3 d4 d5
    rintro e w5 ⟨rfl, bb⟩
    have hB := hB.trans (bb.mono hB.size)
    have hT := hT.below bb
    clear bb
    have HB := Lib.hid hB
    clear hB hT
    go_wp2_with fail
    go_ret
    exact ⟨rfl, HB.out⟩
  | true =>
    have hlen := t.key_len hok
    clear hok
    obtain ⟨ks, hks⟩ : ∃ v : ByteArray, v = ⟨t.key.toArray⟩ := ⟨_, rfl⟩
    obtain ⟨bs, hbs⟩ : ∃ v : ByteArray, v = ⟨t.back.toArray⟩ := ⟨_, rfl⟩
    have ks1 : (ks.size : Int) ≤ 95 := by rw [hks]; show (t.key.toArray.size : Int) ≤ 95; rw [List.size_toArray]; omega
    have kb1 : ((bs.size : Int) == (ks.size : Int)) = true := by rw [hks, hbs]; show ((t.back.toArray.size : Int) == (t.key.toArray.size : Int)) = true; rw [List.size_toArray, List.size_toArray, hlen.2]; simp
    have ke : (ks.toList == ks.toList) = true := by simp
    have be : (bs.toList == bs.toList) = true := by simp
    have HKS := Lib.hid hks
    have HBS := Lib.hid hbs
    clear hks hbs hlen
    have hcall := key_yes X w2 HTF.out HOK.out
    rw [← HKS.out] at hcall
    unfold tc at hcall
    obtain ⟨d0, d1, d2, d3, d4, d5⟩ := hT.six
    go_wp2_with fail
    (with_reducible refine hcall.mono ?_)
    clear hcall
    clear d0 d1 d2 d3 d4 d5
    rintro e w3 ⟨rfl, bb⟩
    have hB := hB.trans (bb.mono hB.size)
    have hT := hT.below bb
    clear bb
    have hcall := back_yes X w3 HTF.out HOK.out
    rw [← HBS.out] at hcall
    unfold tc at hcall
    obtain ⟨d0, d1, d2, d3, d4, d5⟩ := hT.six
    go_wp2_with fail
    (with_reducible refine hcall.mono ?_)
    clear hcall
    clear d0 d1 d2 d3 d4 d5
    rintro e w4 ⟨rfl, bb⟩
    have hB := hB.trans (bb.mono hB.size)
    have hT := hT.below bb
    clear bb
    have hcall := refCheck_any t w4 HTF.out
    rw [HOK.out] at hcall
    unfold tc at hcall
    obtain ⟨d0, d1, d2, d3, d4, d5⟩ := hT.six
    go_wp2_with fail
    (with_reducible refine hcall.mono ?_)
    clear hcall
    clear d0 d1 d2 d3 d4 d5
    rintro e w5 ⟨rfl, bb⟩
    have hB := hB.trans (bb.mono hB.size)
    have hT := hT.below bb
    clear bb
    have hcall := ofKey_yes X w5 HOK.out
    rw [← HKS.out] at hcall
    unfold tc at hcall
    go_wp2_with fail
    (with_reducible refine hcall.mono ?_)
    clear hcall
    rintro e w6 ⟨rfl, bb⟩
    have hB := hB.trans (bb.mono hB.size)
    have hT := hT.below bb
    clear bb
    obtain ⟨w7, hw⟩ : ∃ v, v = w6.alloc (.cells (tc (t)) 25) := ⟨_, rfl⟩
    have bb : Below w6.heap.size w6 w7 := by rw [hw]; exact al _ _
    obtain ⟨bt, hbx⟩ : ∃ v, v = w6.heap.size := ⟨_, rfl⟩
    have hnew : Tb w7 bt (t) := by rw [hw, hbx]; exact Tb.new w6 _
    have hB := hB.trans (bb.mono hB.size)
    have hT := hT.below bb
    have hbt := hnew
    have HW := Lib.hid hw
    have HBXbt := Lib.hid hbx
    clear hw hbx bb hnew
    unfold tc at HW
    go_upto_region 8 with fail
    try rw [← HW.out]
    try rw [← HBXbt.out]
    clear HW
    have hcall := ofBack_yes X w7 HOK.out
    rw [← HBS.out] at hcall
    unfold tc at hcall
    go_wp2_with fail
    (with_reducible refine hcall.mono ?_)
    clear hcall
    rintro e w8 ⟨rfl, bb⟩
    have hB := hB.trans (bb.mono hB.size)
    have hT := hT.below bb
    have hbt := hbt.below bb
    clear bb
    obtain ⟨w9, hw⟩ : ∃ v, v = w8.alloc (.cells (tc (t)) 25) := ⟨_, rfl⟩
    have bb : Below w8.heap.size w8 w9 := by rw [hw]; exact al _ _
    obtain ⟨bv, hbx⟩ : ∃ v, v = w8.heap.size := ⟨_, rfl⟩
    have hnew : Tb w9 bv (t) := by rw [hw, hbx]; exact Tb.new w8 _
    have hB := hB.trans (bb.mono hB.size)
    have hT := hT.below bb
    have hbt := hbt.below bb
    have hbv := hnew
    have HW := Lib.hid hw
    have HBXbv := Lib.hid hbx
    clear hw hbx bb hnew
    unfold tc at HW
    go_upto_region 9 with fail
    try rw [← HW.out]
    try rw [← HBXbv.out]
    clear HW
    have heq := tp_eq t t
    rw [decide_eq_true rfl] at heq
    unfold tc at heq
    have hcall := refKey_any t w9 HOK.out
    rw [← HKS.out] at hcall
    unfold tc at hcall
    obtain ⟨d0, d1, d2, d3, d4, d5⟩ := hT.six
    go_wp2_with fail
    (with_reducible refine hcall.mono ?_)
    clear hcall
    clear d0 d1 d2 d3 d4 d5
    rintro e w10 ⟨rfl, bb⟩
    have hB := hB.trans (bb.mono hB.size)
    have hT := hT.below bb
    have hbt := hbt.below bb
    have hbv := hbv.below bb
    clear bb
    have hcall := refBack_any t w10 HOK.out
    rw [← HBS.out] at hcall
    unfold tc at hcall
    obtain ⟨d0, d1, d2, d3, d4, d5⟩ := hT.six
    go_wp2_with fail
    (with_reducible refine hcall.mono ?_)
    clear hcall
    clear d0 d1 d2 d3 d4 d5
    rintro e w11 ⟨rfl, bb⟩
    have hB := hB.trans (bb.mono hB.size)
    have hT := hT.below bb
    have hbt := hbt.below bb
    have hbv := hbv.below bb
    clear bb
    obtain ⟨d0, d1, d2, d3, d4, d5⟩ := hT.six
    obtain ⟨c0, c1, c2, c3, c4, c5⟩ := hbt.six
    obtain ⟨g0, g1, g2, g3, g4, g5⟩ := hbv.six
    have HB := Lib.hid hB
    clear hB hT hbt hbv
    go_wp2_with fail
    go_ret
    exact ⟨rfl, HB.out⟩
end Go.Proofs.Ytpiojnphbanggaa.TupleKeys
