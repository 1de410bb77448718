/- The walk of TupleApart. -/
import Derived.Test.YtpiojnphbanggaaTupleUse
namespace Go.Proofs.Ytpiojnphbanggaa.TupleApart
open Go.RowKit Base KeyPlain TuplePlain TupleRef TupleSpec TupleEq TupleUse

set_option maxRecDepth 100000 in
set_option maxHeartbeats 12800000 in
theorem apart_any (X : Specs) (t v : Tp) (W : World) : Calls Try.prog 9 #[.agg (tc t), .agg (tc v)] W (Law W) := by
  obtain ⟨wz, hwz⟩ : ∃ u, u = W.alloc (.cells (tc t) 25) := ⟨_, rfl⟩
  obtain ⟨w0, hw0⟩ : ∃ u, u = wz.alloc (.cells (tc v) 25) := ⟨_, rfl⟩
  obtain ⟨b, hbe⟩ : ∃ u, u = W.heap.size := ⟨_, rfl⟩
  have hsz : wz.heap.size = b + 1 := by rw [hwz, hbe]; simp
  have bz : Below wz.heap.size wz w0 := by rw [hw0]; exact al _ _
  have hB : Below W.heap.size W w0 := Below.step (by rw [hwz]; exact al _ _) bz
  have hT : Tb w0 b t := Tb.below (by rw [hwz, hbe]; exact Tb.new W t) bz
  have hV : Tb w0 (b + 1) v := by rw [hw0, ← hsz]; exact Tb.new wz v
  have HWZ := Lib.hid hwz
  have HW := Lib.hid hw0
  have HBE := Lib.hid hbe
  have HSZ := Lib.hid hsz
  clear hwz hw0 hbe hsz bz
  unfold Law
  unfold tc at HW HWZ ⊢
  go_enter Try.func9, Try.ntmps9
  go_upto_region 1 with fail
  try rw [← HWZ.out]
  try rw [← HW.out]
  try rw [← HBE.out]
  try rw [HSZ.out]
  clear HW HWZ
  have hcall := awake_any X w0
  unfold Law at hcall
  go_wp2_with fail
  (with_reducible refine hcall.mono ?_)
  clear hcall
  rintro e w1 ⟨rfl, bb⟩
  have hB := hB.trans (bb.mono hB.size)
  have hT := hT.below bb
  have hV := hV.below bb
  clear bb
  have hcall := few_any t w1
  unfold tc at hcall
  by_cases hft : Few t
  rotate_left
  · rw [decide_eq_false hft] at hcall
    clear hft
    obtain ⟨d0, d1, d2, d3, d4, d5⟩ := hT.six
    go_wp2_with fail
    (with_reducible refine hcall.mono ?_)
    clear hcall
    clear d0 d1 d2 d3 d4 d5
    rintro e w2 ⟨rfl, bb⟩
    have hB := hB.trans (bb.mono hB.size)
    have hT := hT.below bb
    have hV := hV.below bb
    clear bb
    have hcall := awake_any X w2
    unfold Law at hcall
    go_wp2_with fail
    (with_reducible refine hcall.mono ?_)
    clear hcall
    rintro e w3 ⟨rfl, bb⟩
    have hB := hB.trans (bb.mono hB.size)
    have hT := hT.below bb
    have hV := hV.below bb
    clear bb
    have HB := Lib.hid hB
    clear hB hT hV
    go_wp2_with fail
    go_ret
    exact ⟨rfl, HB.out⟩
  rw [decide_eq_true hft] at hcall
  have HFt := Lib.hid hft.tpf
  clear hft
  obtain ⟨d0, d1, d2, d3, d4, d5⟩ := hT.six
  go_wp2_with fail
  (with_reducible refine hcall.mono ?_)
  clear hcall
  clear d0 d1 d2 d3 d4 d5
  rintro e w2 ⟨rfl, bb⟩
  have hB := hB.trans (bb.mono hB.size)
  have hT := hT.below bb
  have hV := hV.below bb
  clear bb
  have hcall := few_any v w2
  unfold tc at hcall
  by_cases hfv : Few v
  rotate_left
  · rw [decide_eq_false hfv] at hcall
    clear hfv
    obtain ⟨c0, c1, c2, c3, c4, c5⟩ := hV.six
    go_wp2_with fail
    (with_reducible refine hcall.mono ?_)
    clear hcall
    clear c0 c1 c2 c3 c4 c5
    rintro e w3 ⟨rfl, bb⟩
    have hB := hB.trans (bb.mono hB.size)
    have hT := hT.below bb
    have hV := hV.below bb
    clear bb
    have hcall := awake_any X w3
    unfold Law at hcall
    go_wp2_with fail
    (with_reducible refine hcall.mono ?_)
    clear hcall
    rintro e w4 ⟨rfl, bb⟩
    have hB := hB.trans (bb.mono hB.size)
    have hT := hT.below bb
    have hV := hV.below bb
    clear bb
    have HB := Lib.hid hB
    clear hB hT hV
    go_wp2_with fail
    go_ret
    exact ⟨rfl, HB.out⟩
  rw [decide_eq_true hfv] at hcall
  have HFv := Lib.hid hfv.tpf
  clear hfv
  obtain ⟨c0, c1, c2, c3, c4, c5⟩ := hV.six
  go_wp2_with fail
  (with_reducible refine hcall.mono ?_)
  clear hcall
  clear c0 c1 c2 c3 c4 c5
  rintro e w3 ⟨rfl, bb⟩
  have hB := hB.trans (bb.mono hB.size)
  have hT := hT.below bb
  have hV := hV.below bb
  clear bb
  obtain ⟨tok, htk⟩ : ∃ u, t.ok = u := ⟨_, rfl⟩
  obtain ⟨vok, hvk⟩ : ∃ u, v.ok = u := ⟨_, rfl⟩
  have HTK := Lib.hid htk
  have HVK := Lib.hid hvk
  clear htk hvk
  cases tok with
  | false =>
    cases vok with
    | false =>
      have hcall := show_no X w3 HFt.out HTK.out
      unfold tc at hcall
      obtain ⟨d0, d1, d2, d3, d4, d5⟩ := hT.six
      go_wp2_with fail
      (with_reducible refine hcall.mono ?_)
      clear hcall
      clear d0 d1 d2 d3 d4 d5
      rintro e w4 ⟨rfl, bb⟩
      have hB := hB.trans (bb.mono hB.size)
      have hT := hT.below bb
      have hV := hV.below bb
      clear bb
      have hcall := show_no X w4 HFv.out HVK.out
      unfold tc at hcall
      obtain ⟨c0, c1, c2, c3, c4, c5⟩ := hV.six
      go_wp2_with fail
      (with_reducible refine hcall.mono ?_)
      clear hcall
      clear c0 c1 c2 c3 c4 c5
      rintro e w5 ⟨rfl, bb⟩
      have hB := hB.trans (bb.mono hB.size)
      have hT := hT.below bb
      have hV := hV.below bb
      clear bb
      have HB := Lib.hid hB
      clear hB hT hV
      go_wp2_with fail
      go_ret
      exact ⟨rfl, HB.out⟩
    | true =>
      obtain ⟨vs, hv⟩ : ∃ u : ByteArray, u = ⟨v.show.toArray⟩ := ⟨_, rfl⟩
      have HVS := Lib.hid hv
      clear hv
      have hcall := show_no X w3 HFt.out HTK.out
      unfold tc at hcall
      obtain ⟨d0, d1, d2, d3, d4, d5⟩ := hT.six
      go_wp2_with fail
      (with_reducible refine hcall.mono ?_)
      clear hcall
      clear d0 d1 d2 d3 d4 d5
      rintro e w4 ⟨rfl, bb⟩
      have hB := hB.trans (bb.mono hB.size)
      have hT := hT.below bb
      have hV := hV.below bb
      clear bb
      have hcall := show_yes X w4 HFv.out HVK.out
      rw [← HVS.out] at hcall
      unfold tc at hcall
      obtain ⟨c0, c1, c2, c3, c4, c5⟩ := hV.six
      go_wp2_with fail
      (with_reducible refine hcall.mono ?_)
      clear hcall
      clear c0 c1 c2 c3 c4 c5
      rintro e w5 ⟨rfl, bb⟩
      have hB := hB.trans (bb.mono hB.size)
      have hT := hT.below bb
      have hV := hV.below bb
      clear bb
      have HB := Lib.hid hB
      clear hB hT hV
      go_wp2_with fail
      go_ret
      exact ⟨rfl, HB.out⟩
  | true =>
    cases vok with
    | false =>
      obtain ⟨ts, ht⟩ : ∃ u : ByteArray, u = ⟨t.show.toArray⟩ := ⟨_, rfl⟩
      have HTS := Lib.hid ht
      clear ht
      have hcall := show_yes X w3 HFt.out HTK.out
      rw [← HTS.out] at hcall
      unfold tc at hcall
      obtain ⟨d0, d1, d2, d3, d4, d5⟩ := hT.six
      go_wp2_with fail
      (with_reducible refine hcall.mono ?_)
      clear hcall
      clear d0 d1 d2 d3 d4 d5
      rintro e w4 ⟨rfl, bb⟩
      have hB := hB.trans (bb.mono hB.size)
      have hT := hT.below bb
      have hV := hV.below bb
      clear bb
      have hcall := show_no X w4 HFv.out HVK.out
      unfold tc at hcall
      obtain ⟨c0, c1, c2, c3, c4, c5⟩ := hV.six
      go_wp2_with fail
      (with_reducible refine hcall.mono ?_)
      clear hcall
      clear c0 c1 c2 c3 c4 c5
      rintro e w5 ⟨rfl, bb⟩
      have hB := hB.trans (bb.mono hB.size)
      have hT := hT.below bb
      have hV := hV.below bb
      clear bb
      have HB := Lib.hid hB
      clear hB hT hV
      go_wp2_with fail
      go_ret
      exact ⟨rfl, HB.out⟩
    | true =>
      obtain ⟨ts, ht⟩ : ∃ u : ByteArray, u = ⟨t.show.toArray⟩ := ⟨_, rfl⟩
      obtain ⟨vs, hv⟩ : ∃ u : ByteArray, u = ⟨v.show.toArray⟩ := ⟨_, rfl⟩
      obtain ⟨eb, heb⟩ : ∃ u, decide (t = v) = u := ⟨_, rfl⟩
      have te : (ts.toList == vs.toList) = eb := by rw [Str.ba_beq, ← heb, decide_eq_decide, ht, hv]; exact ⟨fun q => Tp.show_inj HTK.out HVK.out (by have := congrArg bl q; rwa [str_bl, str_bl] at this), fun q => by rw [q]⟩
      have heq := tp_eq t v
      rw [heb] at heq
      unfold tc at heq
      have be : (eb == eb) = true := by simp
      clear heb
      have HTS := Lib.hid ht
      clear ht
      have HVS := Lib.hid hv
      clear hv
      have hcall := show_yes X w3 HFt.out HTK.out
      rw [← HTS.out] at hcall
      unfold tc at hcall
      obtain ⟨d0, d1, d2, d3, d4, d5⟩ := hT.six
      go_wp2_with fail
      (with_reducible refine hcall.mono ?_)
      clear hcall
      clear d0 d1 d2 d3 d4 d5
      rintro e w4 ⟨rfl, bb⟩
      have hB := hB.trans (bb.mono hB.size)
      have hT := hT.below bb
      have hV := hV.below bb
      clear bb
      have hcall := show_yes X w4 HFv.out HVK.out
      rw [← HVS.out] at hcall
      unfold tc at hcall
      obtain ⟨c0, c1, c2, c3, c4, c5⟩ := hV.six
      go_wp2_with fail
      (with_reducible refine hcall.mono ?_)
      clear hcall
      clear c0 c1 c2 c3 c4 c5
      rintro e w5 ⟨rfl, bb⟩
      have hB := hB.trans (bb.mono hB.size)
      have hT := hT.below bb
      have hV := hV.below bb
      clear bb
      obtain ⟨d0, d1, d2, d3, d4, d5⟩ := hT.six
      obtain ⟨c0, c1, c2, c3, c4, c5⟩ := hV.six
      have HB := Lib.hid hB
      clear hB hT hV
      go_wp2_with fail
      go_ret
      exact ⟨rfl, HB.out⟩
end Go.Proofs.Ytpiojnphbanggaa.TupleApart
