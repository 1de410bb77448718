/- The walk of TupleBacks. -/
import Derived.Test.YtpiojnphbanggaaTupleUse
namespace Go.Proofs.Ytpiojnphbanggaa.TupleBacks
open Go.RowKit Base KeyPlain TuplePlain TupleRef TupleSpec TupleEq TupleUse

theorem backs_few {t : Tp} (h : TpF t) : ∀ p ∈ t.backs, p.size ≤ maxLen := by
  obtain ⟨h1, h2, h3, h4, h5, h6⟩ := h
  intro p hp
  unfold maxLen
  simp only [Tp.backs, List.mem_cons, List.not_mem_nil, or_false] at hp
  rcases hp with rfl | rfl | rfl | rfl | rfl | rfl <;> omega
set_option maxRecDepth 100000 in
set_option maxHeartbeats 12800000 in
theorem backs_any (X : Specs) (t v : Tp) (W : World) : Calls Try.prog 8 #[.agg (tc t), .agg (tc v)] W (Law W) := by
  obtain ⟨wz, hwz⟩ : ∃ u, u = W.alloc (.cells (tc t) 25) := ⟨_, rfl⟩
  obtain ⟨w0, hw0⟩ : ∃ u, u = wz.alloc (.cells (tc v) 25) := ⟨_, rfl⟩
  obtain ⟨b, hbe⟩ : ∃ u, u = W.heap.size := ⟨_, rfl⟩
  have hsz : wz.heap.size = b + 1 := by rw [hwz, hbe]; simp
  have bz : Below wz.heap.size wz w0 := by rw [hw0]; exact al _ _
  have hB : Below W.heap.size W w0 := Below.step (by rw [hwz]; exact al _ _) bz
  have hT : Tb w0 b t := Tb.below (by rw [hwz, hbe]; exact Tb.new W t) bz
  have hV : Tb w0 (b + 1) v := by rw [hw0, ← hsz]; exact Tb.new wz v
  have HWZ := Lib.hid hwz
  have HW := Lib.hid hw0
  have HBE := Lib.hid hbe
  have HSZ := Lib.hid hsz
  clear hwz hw0 hbe hsz bz
  unfold Law
  unfold tc at HW HWZ ⊢
  go_enter Try.func8, Try.ntmps8
  go_upto_region 1 with fail
  try rw [← HWZ.out]
  try rw [← HW.out]
  try rw [← HBE.out]
  try rw [HSZ.out]
  clear HW HWZ
  have hcall := awake_any X w0
  unfold Law at hcall
  go_wp2_with fail
  (with_reducible refine hcall.mono ?_)
  clear hcall
  rintro e w1 ⟨rfl, bb⟩
  have hB := hB.trans (bb.mono hB.size)
  have hT := hT.below bb
  have hV := hV.below bb
  clear bb
  have hcall := few_any t w1
  unfold tc at hcall
  by_cases hft : Few t
  rotate_left
  · rw [decide_eq_false hft] at hcall
    clear hft
    obtain ⟨d0, d1, d2, d3, d4, d5⟩ := hT.six
    go_wp2_with fail
    (with_reducible refine hcall.mono ?_)
    clear hcall
    clear d0 d1 d2 d3 d4 d5
    rintro e w2 ⟨rfl, bb⟩
    have hB := hB.trans (bb.mono hB.size)
    have hT := hT.below bb
    have hV := hV.below bb
    clear bb
    have hcall := awake_any X w2
    unfold Law at hcall
    go_wp2_with fail
    (with_reducible refine hcall.mono ?_)
    clear hcall
    rintro e w3 ⟨rfl, bb⟩
    have hB := hB.trans (bb.mono hB.size)
    have hT := hT.below bb
    have hV := hV.below bb
    clear bb
    have HB := Lib.hid hB
    clear hB hT hV
    go_wp2_with fail
    go_ret
    exact ⟨rfl, HB.out⟩
  rw [decide_eq_true hft] at hcall
  have HFt := Lib.hid hft.tpf
  clear hft
  obtain ⟨d0, d1, d2, d3, d4, d5⟩ := hT.six
  go_wp2_with fail
  (with_reducible refine hcall.mono ?_)
  clear hcall
  clear d0 d1 d2 d3 d4 d5
  rintro e w2 ⟨rfl, bb⟩
  have hB := hB.trans (bb.mono hB.size)
  have hT := hT.below bb
  have hV := hV.below bb
  clear bb
  have hcall := few_any v w2
  unfold tc at hcall
  by_cases hfv : Few v
  rotate_left
  · rw [decide_eq_false hfv] at hcall
    clear hfv
    obtain ⟨c0, c1, c2, c3, c4, c5⟩ := hV.six
    go_wp2_with fail
    (with_reducible refine hcall.mono ?_)
    clear hcall
    clear c0 c1 c2 c3 c4 c5
    rintro e w3 ⟨rfl, bb⟩
    have hB := hB.trans (bb.mono hB.size)
    have hT := hT.below bb
    have hV := hV.below bb
    clear bb
    have hcall := awake_any X w3
    unfold Law at hcall
    go_wp2_with fail
    (with_reducible refine hcall.mono ?_)
    clear hcall
    rintro e w4 ⟨rfl, bb⟩
    have hB := hB.trans (bb.mono hB.size)
    have hT := hT.below bb
    have hV := hV.below bb
    clear bb
    have HB := Lib.hid hB
    clear hB hT hV
    go_wp2_with fail
    go_ret
    exact ⟨rfl, HB.out⟩
  rw [decide_eq_true hfv] at hcall
  have HFv := Lib.hid hfv.tpf
  clear hfv
  obtain ⟨c0, c1, c2, c3, c4, c5⟩ := hV.six
  go_wp2_with fail
  (with_reducible refine hcall.mono ?_)
  clear hcall
  clear c0 c1 c2 c3 c4 c5
  rintro e w3 ⟨rfl, bb⟩
  have hB := hB.trans (bb.mono hB.size)
  have hT := hT.below bb
  have hV := hV.below bb
  clear bb
  obtain ⟨tok, htk⟩ : ∃ u, t.ok = u := ⟨_, rfl⟩
  obtain ⟨vok, hvk⟩ : ∃ u, v.ok = u := ⟨_, rfl⟩
  have HTK := Lib.hid htk
  have HVK := Lib.hid hvk
  clear htk hvk
  cases tok with
  | false =>
    cases vok with
    | false =>
      have hcall := back_no X w3 HFt.out HTK.out
      unfold tc at hcall
      obtain ⟨d0, d1, d2, d3, d4, d5⟩ := hT.six
      go_wp2_with fail
      (with_reducible refine hcall.mono ?_)
      clear hcall
      clear d0 d1 d2 d3 d4 d5
      rintro e w4 ⟨rfl, bb⟩
      have hB := hB.trans (bb.mono hB.size)
      have hT := hT.below bb
      have hV := hV.below bb
      clear bb
      have hcall := back_no X w4 HFv.out HVK.out
      unfold tc at hcall
      obtain ⟨c0, c1, c2, c3, c4, c5⟩ := hV.six
      go_wp2_with fail
      (with_reducible refine hcall.mono ?_)
      clear hcall
      clear c0 c1 c2 c3 c4 c5
      rintro e w5 ⟨rfl, bb⟩
      have hB := hB.trans (bb.mono hB.size)
      have hT := hT.below bb
      have hV := hV.below bb
      clear bb
      have hcall := refCheck_any t w5 HFt.out
      rw [HTK.out] at hcall
      unfold tc at hcall
      obtain ⟨d0, d1, d2, d3, d4, d5⟩ := hT.six
      go_wp2_with fail
      (with_reducible refine hcall.mono ?_)
      clear hcall
      clear d0 d1 d2 d3 d4 d5
      rintro e w6 ⟨rfl, bb⟩
      have hB := hB.trans (bb.mono hB.size)
      have hT := hT.below bb
      have hV := hV.below bb
      clear bb
      have hcall := refCheck_any v w6 HFv.out
      rw [HVK.out] at hcall
      unfold tc at hcall
      obtain ⟨c0, c1, c2, c3, c4, c5⟩ := hV.six
      go_wp2_with fail
      (with_reducible refine hcall.mono ?_)
      clear hcall
      clear c0 c1 c2 c3 c4 c5
      rintro e w7 ⟨rfl, bb⟩
      have hB := hB.trans (bb.mono hB.size)
      have hT := hT.below bb
      have hV := hV.below bb
      clear bb
      have HB := Lib.hid hB
      clear hB hT hV
      go_wp2_with fail
      go_ret
      exact ⟨rfl, HB.out⟩
    | true =>
      obtain ⟨vs, hv⟩ : ∃ u : ByteArray, u = ⟨v.back.toArray⟩ := ⟨_, rfl⟩
      have HVS := Lib.hid hv
      clear hv
      have hcall := back_no X w3 HFt.out HTK.out
      unfold tc at hcall
      obtain ⟨d0, d1, d2, d3, d4, d5⟩ := hT.six
      go_wp2_with fail
      (with_reducible refine hcall.mono ?_)
      clear hcall
      clear d0 d1 d2 d3 d4 d5
      rintro e w4 ⟨rfl, bb⟩
      have hB := hB.trans (bb.mono hB.size)
      have hT := hT.below bb
      have hV := hV.below bb
      clear bb
      have hcall := back_yes X w4 HFv.out HVK.out
      rw [← HVS.out] at hcall
      unfold tc at hcall
      obtain ⟨c0, c1, c2, c3, c4, c5⟩ := hV.six
      go_wp2_with fail
      (with_reducible refine hcall.mono ?_)
      clear hcall
      clear c0 c1 c2 c3 c4 c5
      rintro e w5 ⟨rfl, bb⟩
      have hB := hB.trans (bb.mono hB.size)
      have hT := hT.below bb
      have hV := hV.below bb
      clear bb
      have hcall := refCheck_any t w5 HFt.out
      rw [HTK.out] at hcall
      unfold tc at hcall
      obtain ⟨d0, d1, d2, d3, d4, d5⟩ := hT.six
      go_wp2_with fail
      (with_reducible refine hcall.mono ?_)
      clear hcall
      clear d0 d1 d2 d3 d4 d5
      rintro e w6 ⟨rfl, bb⟩
      have hB := hB.trans (bb.mono hB.size)
      have hT := hT.below bb
      have hV := hV.below bb
      clear bb
      have hcall := refCheck_any v w6 HFv.out
      rw [HVK.out] at hcall
      unfold tc at hcall
      obtain ⟨c0, c1, c2, c3, c4, c5⟩ := hV.six
      go_wp2_with fail
      (with_reducible refine hcall.mono ?_)
      clear hcall
      clear c0 c1 c2 c3 c4 c5
      rintro e w7 ⟨rfl, bb⟩
      have hB := hB.trans (bb.mono hB.size)
      have hT := hT.below bb
      have hV := hV.below bb
      clear bb
      have HB := Lib.hid hB
      clear hB hT hV
      go_wp2_with fail
      go_ret
      exact ⟨rfl, HB.out⟩
  | true =>
    cases vok with
    | false =>
      obtain ⟨ts, ht⟩ : ∃ u : ByteArray, u = ⟨t.back.toArray⟩ := ⟨_, rfl⟩
      have HTS := Lib.hid ht
      clear ht
      have hcall := back_yes X w3 HFt.out HTK.out
      rw [← HTS.out] at hcall
      unfold tc at hcall
      obtain ⟨d0, d1, d2, d3, d4, d5⟩ := hT.six
      go_wp2_with fail
      (with_reducible refine hcall.mono ?_)
      clear hcall
      clear d0 d1 d2 d3 d4 d5
      rintro e w4 ⟨rfl, bb⟩
      have hB := hB.trans (bb.mono hB.size)
      have hT := hT.below bb
      have hV := hV.below bb
      clear bb
      have hcall := back_no X w4 HFv.out HVK.out
      unfold tc at hcall
      obtain ⟨c0, c1, c2, c3, c4, c5⟩ := hV.six
      go_wp2_with fail
      (with_reducible refine hcall.mono ?_)
      clear hcall
      clear c0 c1 c2 c3 c4 c5
      rintro e w5 ⟨rfl, bb⟩
      have hB := hB.trans (bb.mono hB.size)
      have hT := hT.below bb
      have hV := hV.below bb
      clear bb
      have hcall := refCheck_any t w5 HFt.out
      rw [HTK.out] at hcall
      unfold tc at hcall
      obtain ⟨d0, d1, d2, d3, d4, d5⟩ := hT.six
      go_wp2_with fail
      (with_reducible refine hcall.mono ?_)
      clear hcall
      clear d0 d1 d2 d3 d4 d5
      rintro e w6 ⟨rfl, bb⟩
      have hB := hB.trans (bb.mono hB.size)
      have hT := hT.below bb
      have hV := hV.below bb
      clear bb
      have hcall := refCheck_any v w6 HFv.out
      rw [HVK.out] at hcall
      unfold tc at hcall
      obtain ⟨c0, c1, c2, c3, c4, c5⟩ := hV.six
      go_wp2_with fail
      (with_reducible refine hcall.mono ?_)
      clear hcall
      clear c0 c1 c2 c3 c4 c5
      rintro e w7 ⟨rfl, bb⟩
      have hB := hB.trans (bb.mono hB.size)
      have hT := hT.below bb
      have hV := hV.below bb
      clear bb
      have HB := Lib.hid hB
      clear hB hT hV
      go_wp2_with fail
      go_ret
      exact ⟨rfl, HB.out⟩
    | true =>
      obtain ⟨ts, ht⟩ : ∃ u : ByteArray, u = ⟨t.back.toArray⟩ := ⟨_, rfl⟩
      obtain ⟨vs, hv⟩ : ∃ u : ByteArray, u = ⟨v.back.toArray⟩ := ⟨_, rfl⟩
      obtain ⟨lb, hlb⟩ : ∃ u, KeyPlain.less (lst t.backs) (lst v.backs) = u := ⟨_, rfl⟩
      have leq : (lb == lb) = true := by simp
      have hbl : Op.bytesLess ts.data.toList vs.data.toList = lb := by rw [← hlb, less_back, ht, hv]
      obtain ⟨eb, heb⟩ : ∃ u, decide (t = v) = u := ⟨_, rfl⟩
      have te : (ts.toList == vs.toList) = eb := by rw [Str.ba_beq, ← heb, decide_eq_decide, ht, hv]; exact ⟨fun q => back_inj (by have := congrArg bl q; rwa [str_bl, str_bl] at this), fun q => by rw [q]⟩
      have heq := tp_eq t v
      rw [heb] at heq
      unfold tc at heq
      have be : (eb == eb) = true := by simp
      clear heb
      have hz1 : ts.size ≤ maxLen := by rw [ht]; show t.back.toArray.size ≤ _; rw [List.size_toArray]; have := t.key_len HTK.out; unfold maxLen; omega
      have hz2 : vs.size ≤ maxLen := by rw [hv]; show v.back.toArray.size ≤ _; rw [List.size_toArray]; have := v.key_len HVK.out; unfold maxLen; omega
      have HZ := Lib.hid (And.intro hz1 hz2)
      have HBL := Lib.hid hbl
      have HLB := Lib.hid hlb
      clear hbl hlb hz1 hz2
      have HTS := Lib.hid ht
      clear ht
      have HVS := Lib.hid hv
      clear hv
      have hcall := back_yes X w3 HFt.out HTK.out
      rw [← HTS.out] at hcall
      unfold tc at hcall
      obtain ⟨d0, d1, d2, d3, d4, d5⟩ := hT.six
      go_wp2_with fail
      (with_reducible refine hcall.mono ?_)
      clear hcall
      clear d0 d1 d2 d3 d4 d5
      rintro e w4 ⟨rfl, bb⟩
      have hB := hB.trans (bb.mono hB.size)
      have hT := hT.below bb
      have hV := hV.below bb
      clear bb
      have hcall := back_yes X w4 HFv.out HVK.out
      rw [← HVS.out] at hcall
      unfold tc at hcall
      obtain ⟨c0, c1, c2, c3, c4, c5⟩ := hV.six
      go_wp2_with fail
      (with_reducible refine hcall.mono ?_)
      clear hcall
      clear c0 c1 c2 c3 c4 c5
      rintro e w5 ⟨rfl, bb⟩
      have hB := hB.trans (bb.mono hB.size)
      have hT := hT.below bb
      have hV := hV.below bb
      clear bb
      go_upto_region 7 with fail
      obtain ⟨w6, hw⟩ : ∃ u, u = w5.alloc (.cells #[.string t.u.k, .string t.u.i, .string t.u.r, .string t.k, .string t.i, .string t.r] 9) := ⟨_, rfl⟩
      have bb : Below w5.heap.size w5 w6 := by rw [hw]; exact al _ _
      obtain ⟨g1, hg1⟩ : ∃ u, u = w5.heap.size := ⟨_, rfl⟩
      have hrg1 : Row w6 w6.heap.size (some ⟨g1, 0, none⟩) (t.backs.map .string) := by rw [hw, hg1]; exact (row_of_block (heap_alloc_new w5 _)).more (by simp)
      have HW := Lib.hid hw
      have HNg1 := Lib.hid hg1
      clear hw hg1
      obtain ⟨d0, d1, d2, d3, d4, d5⟩ := hT.six
      go_upto_region 8 with fail
      try rw [← HW.out]
      try rw [← HNg1.out]
      clear HW
      clear d0 d1 d2 d3 d4 d5
      have hB := hB.trans (bb.mono hB.size)
      have hT := hT.below bb
      have hV := hV.below bb
      clear bb
      obtain ⟨w7, hw⟩ : ∃ u, u = w6.alloc (.cells #[.string v.u.k, .string v.u.i, .string v.u.r, .string v.k, .string v.i, .string v.r] 9) := ⟨_, rfl⟩
      have bb : Below w6.heap.size w6 w7 := by rw [hw]; exact al _ _
      obtain ⟨g2, hg2⟩ : ∃ u, u = w6.heap.size := ⟨_, rfl⟩
      have hrg2 : Row w7 w7.heap.size (some ⟨g2, 0, none⟩) (v.backs.map .string) := by rw [hw, hg2]; exact (row_of_block (heap_alloc_new w6 _)).more (by simp)
      have HW := Lib.hid hw
      have HNg2 := Lib.hid hg2
      clear hw hg2
      obtain ⟨c0, c1, c2, c3, c4, c5⟩ := hV.six
      go_upto_region 9 with fail
      try rw [← HW.out]
      try rw [← HNg2.out]
      clear HW
      clear c0 c1 c2 c3 c4 c5
      have hrg1 := hrg1.belowSize bb
      have hB := hB.trans (bb.mono hB.size)
      have hT := hT.below bb
      have hV := hV.below bb
      clear bb
      have HT7 := Lib.hid (And.intro hT hV)
      have HB7 := Lib.hid hB
      have HR := Lib.hid (And.intro hrg1 hrg2)
      clear hrg1 hrg2
      have hcall := KeyRead.Below_q ts vs w7 HZ.out.1 HZ.out.2
      rw [HBL.out] at hcall
      go_wp2_with fail
      (with_reducible refine hcall.mono ?_)
      clear hcall
      rintro e w8 ⟨rfl, nq, rfl⟩
      have bb := Base.below_drewN w7 w7.heap.size nq
      have hB := hB.trans (bb.mono hB.size)
      have hT := hT.below bb
      have hV := hV.below bb
      have hcall := KeyRead.refLess_q (some ⟨g1, 0, none⟩) (some ⟨g2, 0, none⟩) 6 6 t.backs v.backs (w7.drewN nq) (HR.out.1.belowSize bb) (HR.out.2.belowSize bb) (by simp [Tp.backs, maxLen]) (by simp [Tp.backs, maxLen]) (backs_few HFt.out) (backs_few HFv.out)
      rw [HLB.out] at hcall
      simp only [Tp.backs, List.length_cons, List.length_nil, Nat.zero_add, Nat.reduceAdd] at hcall
      clear bb
      go_wp2_with fail
      (with_reducible refine hcall.mono ?_)
      clear hcall
      rintro e w9 ⟨rfl, nr, rfl⟩
      have bb := Base.below_drewN (w7.drewN nq) (w7.drewN nq).heap.size nr
      have hB := hB.trans (bb.mono hB.size)
      have hT := hT.below bb
      have hV := hV.below bb
      clear bb
      obtain ⟨d0, d1, d2, d3, d4, d5⟩ := HT7.out.1.six
      obtain ⟨c0, c1, c2, c3, c4, c5⟩ := HT7.out.2.six
      skip
      clear hB hT hV
      go_wp2_with fail
      go_ret
      exact ⟨rfl, HB7.out.trans (Base.below_drewN _ _ _)⟩
end Go.Proofs.Ytpiojnphbanggaa.TupleBacks
