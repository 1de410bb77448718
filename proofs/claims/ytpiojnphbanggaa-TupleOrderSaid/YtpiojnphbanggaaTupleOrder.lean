/- The walk of TupleOrder. -/
import Derived.Test.YtpiojnphbanggaaTupleUse
namespace Go.Proofs.Ytpiojnphbanggaa.TupleOrder
open Go.RowKit Base KeyPlain TuplePlain TupleRef TupleSpec TupleEq TupleUse

set_option maxRecDepth 100000 in
set_option maxHeartbeats 12800000 in
theorem order_any (X : Specs) (t v : Tp) (W : World) : Calls Try.prog 7 #[.agg (tc t), .agg (tc v)] W (Law W) := by
  obtain ⟨wz, hwz⟩ : ∃ u, u = W.alloc (.cells (tc t) 25) := ⟨_, rfl⟩
  obtain ⟨w0, hw0⟩ : ∃ u, u = wz.alloc (.cells (tc v) 25) := ⟨_, rfl⟩
  obtain ⟨b, hbe⟩ : ∃ u, u = W.heap.size := ⟨_, rfl⟩
  have hsz : wz.heap.size = b + 1 := by rw [hwz, hbe]; simp
  have bz : Below wz.heap.size wz w0 := by rw [hw0]; exact al _ _
  have hB : Below W.heap.size W w0 := Below.step (by rw [hwz]; exact al _ _) bz
  have hT : Tb w0 b t := Tb.below (by rw [hwz, hbe]; exact Tb.new W t) bz
  have hV : Tb w0 (b + 1) v := by rw [hw0, ← hsz]; exact Tb.new wz v
  have HWZ := Lib.hid hwz
  have HW := Lib.hid hw0
  have HBE := Lib.hid hbe
  have HSZ := Lib.hid hsz
  clear hwz hw0 hbe hsz bz
  unfold Law
  unfold tc at HW HWZ ⊢
  go_enter Try.func7, Try.ntmps7
  go_upto_region 1 with fail
  try rw [← HWZ.out]
  try rw [← HW.out]
  try rw [← HBE.out]
  try rw [HSZ.out]
  clear HW HWZ
  have hcall := awake_any X w0
  unfold Law at hcall
  go_wp2_with fail
  (with_reducible refine hcall.mono ?_)
  clear hcall
  rintro e w1 ⟨rfl, bb⟩
  have hB := hB.trans (bb.mono hB.size)
  have hT := hT.below bb
  have hV := hV.below bb
  clear bb
  have hcall := few_any t w1
  unfold tc at hcall
  by_cases hft : Few t
  rotate_left
  · rw [decide_eq_false hft] at hcall
    clear hft
    obtain ⟨d0, d1, d2, d3, d4, d5⟩ := hT.six
    go_wp2_with fail
    (with_reducible refine hcall.mono ?_)
    clear hcall
    clear d0 d1 d2 d3 d4 d5
    rintro e w2 ⟨rfl, bb⟩
    have hB := hB.trans (bb.mono hB.size)
    have hT := hT.below bb
    have hV := hV.below bb
    clear bb
    have hcall := awake_any X w2
    unfold Law at hcall
    go_wp2_with fail
    (with_reducible refine hcall.mono ?_)
    clear hcall
    rintro e w3 ⟨rfl, bb⟩
    have hB := hB.trans (bb.mono hB.size)
    have hT := hT.below bb
    have hV := hV.below bb
    clear bb
    have HB := Lib.hid hB
    clear hB hT hV
    go_wp2_with fail
    go_ret
    exact ⟨rfl, HB.out⟩
  rw [decide_eq_true hft] at hcall
  have HFt := Lib.hid hft.tpf
  clear hft
  obtain ⟨d0, d1, d2, d3, d4, d5⟩ := hT.six
  go_wp2_with fail
  (with_reducible refine hcall.mono ?_)
  clear hcall
  clear d0 d1 d2 d3 d4 d5
  rintro e w2 ⟨rfl, bb⟩
  have hB := hB.trans (bb.mono hB.size)
  have hT := hT.below bb
  have hV := hV.below bb
  clear bb
  have hcall := few_any v w2
  unfold tc at hcall
  by_cases hfv : Few v
  rotate_left
  · rw [decide_eq_false hfv] at hcall
    clear hfv
    obtain ⟨c0, c1, c2, c3, c4, c5⟩ := hV.six
    go_wp2_with fail
    (with_reducible refine hcall.mono ?_)
    clear hcall
    clear c0 c1 c2 c3 c4 c5
    rintro e w3 ⟨rfl, bb⟩
    have hB := hB.trans (bb.mono hB.size)
    have hT := hT.below bb
    have hV := hV.below bb
    clear bb
    have hcall := awake_any X w3
    unfold Law at hcall
    go_wp2_with fail
    (with_reducible refine hcall.mono ?_)
    clear hcall
    rintro e w4 ⟨rfl, bb⟩
    have hB := hB.trans (bb.mono hB.size)
    have hT := hT.below bb
    have hV := hV.below bb
    clear bb
    have HB := Lib.hid hB
    clear hB hT hV
    go_wp2_with fail
    go_ret
    exact ⟨rfl, HB.out⟩
  rw [decide_eq_true hfv] at hcall
  have HFv := Lib.hid hfv.tpf
  clear hfv
  obtain ⟨c0, c1, c2, c3, c4, c5⟩ := hV.six
  go_wp2_with fail
  (with_reducible refine hcall.mono ?_)
  clear hcall
  clear c0 c1 c2 c3 c4 c5
  rintro e w3 ⟨rfl, bb⟩
  have hB := hB.trans (bb.mono hB.size)
  have hT := hT.below bb
  have hV := hV.below bb
  clear bb
  obtain ⟨tok, htk⟩ : ∃ u, t.ok = u := ⟨_, rfl⟩
  obtain ⟨vok, hvk⟩ : ∃ u, v.ok = u := ⟨_, rfl⟩
  have HTK := Lib.hid htk
  have HVK := Lib.hid hvk
  clear htk hvk
  obtain ⟨lb, hlb⟩ : ∃ u, KeyPlain.less (lst t.parts) (lst v.parts) = u := ⟨_, rfl⟩
  have HLB := Lib.hid hlb
  clear hlb
  have lne : (lb != lb) = false := by simp
  have leq : (lb == lb) = true := by simp
  have hcall := X.less t v w3 HFt.out HFv.out
  rw [HLB.out] at hcall
  unfold tc at hcall
  obtain ⟨d0, d1, d2, d3, d4, d5⟩ := hT.six
  obtain ⟨c0, c1, c2, c3, c4, c5⟩ := hV.six
  go_wp2_with fail
  (with_reducible refine hcall.mono ?_)
  clear hcall
  clear d0 d1 d2 d3 d4 d5
  clear c0 c1 c2 c3 c4 c5
  rintro e w4 ⟨rfl, bb⟩
  have hB := hB.trans (bb.mono hB.size)
  have hT := hT.below bb
  have hV := hV.below bb
  clear bb
  have hcall := refLess_any t v w4 HFt.out HFv.out
  rw [HLB.out] at hcall
  unfold tc at hcall
  obtain ⟨d0, d1, d2, d3, d4, d5⟩ := hT.six
  obtain ⟨c0, c1, c2, c3, c4, c5⟩ := hV.six
  go_wp2_with fail
  (with_reducible refine hcall.mono ?_)
  clear hcall
  clear d0 d1 d2 d3 d4 d5
  clear c0 c1 c2 c3 c4 c5
  rintro e w5 ⟨rfl, bb⟩
  have hB := hB.trans (bb.mono hB.size)
  have hT := hT.below bb
  have hV := hV.below bb
  clear bb
  cases tok with
  | false =>
    cases vok with
    | false =>
      have hcall := key_no X w5 HFt.out HTK.out
      unfold tc at hcall
      obtain ⟨d0, d1, d2, d3, d4, d5⟩ := hT.six
      go_wp2_with fail
      (with_reducible refine hcall.mono ?_)
      clear hcall
      clear d0 d1 d2 d3 d4 d5
      rintro e w6 ⟨rfl, bb⟩
      have hB := hB.trans (bb.mono hB.size)
      have hT := hT.below bb
      have hV := hV.below bb
      clear bb
      have hcall := key_no X w6 HFv.out HVK.out
      unfold tc at hcall
      obtain ⟨c0, c1, c2, c3, c4, c5⟩ := hV.six
      go_wp2_with fail
      (with_reducible refine hcall.mono ?_)
      clear hcall
      clear c0 c1 c2 c3 c4 c5
      rintro e w7 ⟨rfl, bb⟩
      have hB := hB.trans (bb.mono hB.size)
      have hT := hT.below bb
      have hV := hV.below bb
      clear bb
      have HB := Lib.hid hB
      clear hB hT hV
      go_wp2_with fail
      go_ret
      exact ⟨rfl, HB.out⟩
    | true =>
      obtain ⟨vs, hv⟩ : ∃ u : ByteArray, u = ⟨v.key.toArray⟩ := ⟨_, rfl⟩
      have HVS := Lib.hid hv
      clear hv
      have hcall := key_no X w5 HFt.out HTK.out
      unfold tc at hcall
      obtain ⟨d0, d1, d2, d3, d4, d5⟩ := hT.six
      go_wp2_with fail
      (with_reducible refine hcall.mono ?_)
      clear hcall
      clear d0 d1 d2 d3 d4 d5
      rintro e w6 ⟨rfl, bb⟩
      have hB := hB.trans (bb.mono hB.size)
      have hT := hT.below bb
      have hV := hV.below bb
      clear bb
      have hcall := key_yes X w6 HFv.out HVK.out
      rw [← HVS.out] at hcall
      unfold tc at hcall
      obtain ⟨c0, c1, c2, c3, c4, c5⟩ := hV.six
      go_wp2_with fail
      (with_reducible refine hcall.mono ?_)
      clear hcall
      clear c0 c1 c2 c3 c4 c5
      rintro e w7 ⟨rfl, bb⟩
      have hB := hB.trans (bb.mono hB.size)
      have hT := hT.below bb
      have hV := hV.below bb
      clear bb
      have HB := Lib.hid hB
      clear hB hT hV
      go_wp2_with fail
      go_ret
      exact ⟨rfl, HB.out⟩
  | true =>
    cases vok with
    | false =>
      obtain ⟨ts, ht⟩ : ∃ u : ByteArray, u = ⟨t.key.toArray⟩ := ⟨_, rfl⟩
      have HTS := Lib.hid ht
      clear ht
      have hcall := key_yes X w5 HFt.out HTK.out
      rw [← HTS.out] at hcall
      unfold tc at hcall
      obtain ⟨d0, d1, d2, d3, d4, d5⟩ := hT.six
      go_wp2_with fail
      (with_reducible refine hcall.mono ?_)
      clear hcall
      clear d0 d1 d2 d3 d4 d5
      rintro e w6 ⟨rfl, bb⟩
      have hB := hB.trans (bb.mono hB.size)
      have hT := hT.below bb
      have hV := hV.below bb
      clear bb
      have hcall := key_no X w6 HFv.out HVK.out
      unfold tc at hcall
      obtain ⟨c0, c1, c2, c3, c4, c5⟩ := hV.six
      go_wp2_with fail
      (with_reducible refine hcall.mono ?_)
      clear hcall
      clear c0 c1 c2 c3 c4 c5
      rintro e w7 ⟨rfl, bb⟩
      have hB := hB.trans (bb.mono hB.size)
      have hT := hT.below bb
      have hV := hV.below bb
      clear bb
      have HB := Lib.hid hB
      clear hB hT hV
      go_wp2_with fail
      go_ret
      exact ⟨rfl, HB.out⟩
    | true =>
      obtain ⟨ts, ht⟩ : ∃ u : ByteArray, u = ⟨t.key.toArray⟩ := ⟨_, rfl⟩
      obtain ⟨vs, hv⟩ : ∃ u : ByteArray, u = ⟨v.key.toArray⟩ := ⟨_, rfl⟩
      have hbl : Op.bytesLess ts.data.toList vs.data.toList = lb := by rw [← HLB.out, less_key, ht, hv]
      have hz1 : ts.size ≤ maxLen := by rw [ht]; show t.key.toArray.size ≤ _; rw [List.size_toArray]; have := (t.key_len HTK.out).1; unfold maxLen; omega
      have hz2 : vs.size ≤ maxLen := by rw [hv]; show v.key.toArray.size ≤ _; rw [List.size_toArray]; have := (v.key_len HVK.out).1; unfold maxLen; omega
      have HZ := Lib.hid (And.intro hz1 hz2)
      have HBL := Lib.hid hbl
      clear hbl hz1 hz2
      have HTS := Lib.hid ht
      clear ht
      have HVS := Lib.hid hv
      clear hv
      have hcall := key_yes X w5 HFt.out HTK.out
      rw [← HTS.out] at hcall
      unfold tc at hcall
      obtain ⟨d0, d1, d2, d3, d4, d5⟩ := hT.six
      go_wp2_with fail
      (with_reducible refine hcall.mono ?_)
      clear hcall
      clear d0 d1 d2 d3 d4 d5
      rintro e w6 ⟨rfl, bb⟩
      have hB := hB.trans (bb.mono hB.size)
      have hT := hT.below bb
      have hV := hV.below bb
      clear bb
      have hcall := key_yes X w6 HFv.out HVK.out
      rw [← HVS.out] at hcall
      unfold tc at hcall
      obtain ⟨c0, c1, c2, c3, c4, c5⟩ := hV.six
      go_wp2_with fail
      (with_reducible refine hcall.mono ?_)
      clear hcall
      clear c0 c1 c2 c3 c4 c5
      rintro e w7 ⟨rfl, bb⟩
      have hB := hB.trans (bb.mono hB.size)
      have hT := hT.below bb
      have hV := hV.below bb
      clear bb
      have hcall := KeyRead.Below_q ts vs w7 HZ.out.1 HZ.out.2
      rw [HBL.out] at hcall
      go_wp2_with fail
      (with_reducible refine hcall.mono ?_)
      clear hcall
      rintro e w8 ⟨rfl, nq, rfl⟩
      have bb := Base.below_drewN w7 w7.heap.size nq
      have hB := hB.trans (bb.mono hB.size)
      have hT := hT.below bb
      have hV := hV.below bb
      clear bb
      have HB := Lib.hid hB
      clear hB hT hV
      go_wp2_with fail
      go_ret
      exact ⟨rfl, HB.out⟩
end Go.Proofs.Ytpiojnphbanggaa.TupleOrder
