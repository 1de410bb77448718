/- The walk of TupleParts. -/
import Derived.Test.YtpiojnphbanggaaTupleUse
namespace Go.Proofs.Ytpiojnphbanggaa.TupleParts
open Go.RowKit Base KeyPlain TuplePlain TupleRef TupleSpec TupleEq TupleUse

set_option maxRecDepth 100000 in
set_option maxHeartbeats 12800000 in
theorem parts_any (X : Specs) (t : Tp) (W : World) : Calls Try.prog 10 #[.agg (tc t)] W (Law W) := by
  obtain ⟨w0, hw0⟩ : ∃ v, v = W.alloc (.cells (tc t) 25) := ⟨_, rfl⟩
  obtain ⟨b, hbe⟩ : ∃ v, v = W.heap.size := ⟨_, rfl⟩
  have hB : Below W.heap.size W w0 := by rw [hw0]; exact al _ _
  have hT : Tb w0 b t := by rw [hw0, hbe]; exact Tb.new W t
  have HW := Lib.hid hw0
  have HBE := Lib.hid hbe
  clear hw0 hbe
  unfold Law
  unfold tc at HW ⊢
  go_enter Try.func10, Try.ntmps10
  go_upto_region 1 with fail
  try rw [← HW.out]
  try rw [← HBE.out]
  clear HW
  have hcall := awake_any X w0
  unfold Law at hcall
  go_wp2_with fail
  (with_reducible refine hcall.mono ?_)
  clear hcall
  rintro e w1 ⟨rfl, bb⟩
  have hB := hB.trans (bb.mono hB.size)
  have hT := hT.below bb
  clear bb
  have hcall := few_any t w1
  unfold tc at hcall
  by_cases hfew : Few t
  rotate_left
  · rw [decide_eq_false hfew] at hcall
    clear hfew
    obtain ⟨d0, d1, d2, d3, d4, d5⟩ := hT.six
    go_wp2_with fail
    (with_reducible refine hcall.mono ?_)
    clear hcall
    clear d0 d1 d2 d3 d4 d5
    rintro e w2 ⟨rfl, bb⟩
    have hB := hB.trans (bb.mono hB.size)
    have hT := hT.below bb
    clear bb
    have hcall := awake_any X w2
    unfold Law at hcall
    go_wp2_with fail
    (with_reducible refine hcall.mono ?_)
    clear hcall
    rintro e w3 ⟨rfl, bb⟩
    have HB := Lib.hid (hB.trans (bb.mono hB.size))
    clear bb hB hT
    go_wp2_with fail
    go_ret
    exact ⟨rfl, HB.out⟩
  rw [decide_eq_true hfew] at hcall
  have htf := hfew.tpf
  clear hfew
  obtain ⟨d0, d1, d2, d3, d4, d5⟩ := hT.six
  go_wp2_with fail
  (with_reducible refine hcall.mono ?_)
  clear hcall
  clear d0 d1 d2 d3 d4 d5
  rintro e w2 ⟨rfl, bb⟩
  have hB := hB.trans (bb.mono hB.size)
  have hT := hT.below bb
  clear bb
  have huf : UsF t.u := htf.2.2.2
  have HTF := Lib.hid htf
  have HUF := Lib.hid huf
  clear htf huf
  obtain ⟨tok, hok⟩ : ∃ v, t.ok = v := ⟨_, rfl⟩
  have HOK := Lib.hid hok
  have hof : UsF t.obj := ⟨HTF.out.1, HTF.out.2.1, HTF.out.2.2.1⟩
  have HOF := Lib.hid hof
  clear hof
  cases tok with
  | true =>
    have HO := Lib.hid (t.obj_ok hok)
    have HU := Lib.hid (t.okE hok).2.2.2
    clear hok
    obtain ⟨ts, hts⟩ : ∃ v : ByteArray, v = ⟨t.show.toArray⟩ := ⟨_, rfl⟩
    obtain ⟨os, hos⟩ : ∃ v : ByteArray, v = ⟨t.obj.show.toArray⟩ := ⟨_, rfl⟩
    obtain ⟨us, hus⟩ : ∃ v : ByteArray, v = ⟨t.u.show.toArray⟩ := ⟨_, rfl⟩
    have ol : os.size ≤ 1000000 := by rw [hos]; show t.obj.show.toArray.size ≤ _; rw [List.size_toArray]; exact us_len2 HO.out
    have ul : us.size ≤ 1000000 := by rw [hus]; show t.u.show.toArray.size ≤ _; rw [List.size_toArray]; exact us_len2 HU.out
    have te : (ts.toList == (os ++ ⟨#[64]⟩ ++ us).toList) = true := by rw [Str.ba_beq, decide_eq_true_eq, hts, hos, hus]; exact ba_of (by simp [bl, t.show_two HOK.out])
    have HTS := Lib.hid hts
    have HOS := Lib.hid hos
    have HUS := Lib.hid hus
    clear hts hos hus
    have hcall := show_yes X w2 HTF.out HOK.out
    rw [← HTS.out] at hcall
    unfold tc at hcall
    obtain ⟨d0, d1, d2, d3, d4, d5⟩ := hT.six
    go_wp2_with fail
    (with_reducible refine hcall.mono ?_)
    clear hcall
    clear d0 d1 d2 d3 d4 d5
    rintro e w3 ⟨rfl, bb⟩
    have hB := hB.trans (bb.mono hB.size)
    have hT := hT.below bb
    clear bb
    have hcall := showUser_yes X w3 HOF.out HO.out
    rw [← HOS.out] at hcall
    unfold uc at hcall
    unfold Tp.obj at hcall
    obtain ⟨d0, d1, d2, d3, d4, d5⟩ := hT.six
    go_wp2_with fail
    (with_reducible refine hcall.mono ?_)
    clear hcall
    clear d0 d1 d2 d3 d4 d5
    rintro e w4 ⟨rfl, bb⟩
    have hB := hB.trans (bb.mono hB.size)
    have hT := hT.below bb
    clear bb
    have hcall := showUser_yes X w4 HUF.out HU.out
    rw [← HUS.out] at hcall
    unfold uc at hcall
    obtain ⟨d0, d1, d2, d3, d4, d5⟩ := hT.six
    go_wp2_with fail
    (with_reducible refine hcall.mono ?_)
    clear hcall
    clear d0 d1 d2 d3 d4 d5
    rintro e w5 ⟨rfl, bb⟩
    have hB := hB.trans (bb.mono hB.size)
    have hT := hT.below bb
    clear bb
    have HB := Lib.hid hB
    clear hB hT
    go_wp2_with fail
    go_ret
    exact ⟨rfl, HB.out⟩
  | false =>
    clear hok
    obtain ⟨ook, hoo⟩ : ∃ v, t.obj.ok = v := ⟨_, rfl⟩
    obtain ⟨uok, huu⟩ : ∃ v, t.u.ok = v := ⟨_, rfl⟩
    have HR := Lib.hid (show ook = true → uok = true → t.r.size = 0 from fun p q => by
      have h0 := HOK.out
      rw [p] at hoo
      rw [q] at huu
      obtain ⟨a1, a2, a3⟩ := Us.okE hoo
      have a3 : relL t.r = true := a3
      have a1 : nameL (bl t.k) = true := a1
      have a2 : idL (bl t.i) = true := a2
      simp only [Tp.ok, a1, a2, huu, Bool.true_and, Bool.and_true] at h0
      simp only [relL, h0, Bool.or_false, decide_eq_true_eq] at a3
      exact a3)
    have HOO := Lib.hid hoo
    have HUU := Lib.hid huu
    clear hoo huu
    cases ook with
    | false =>
      cases uok with
      | false =>
        have hcall := show_no X w2 HTF.out HOK.out
        unfold tc at hcall
        obtain ⟨d0, d1, d2, d3, d4, d5⟩ := hT.six
        go_wp2_with fail
        (with_reducible refine hcall.mono ?_)
        clear hcall
        clear d0 d1 d2 d3 d4 d5
        rintro e w3 ⟨rfl, bb⟩
        have hB := hB.trans (bb.mono hB.size)
        have hT := hT.below bb
        clear bb
        have hcall := showUser_no X w3 HOF.out HOO.out
        unfold uc at hcall
        unfold Tp.obj at hcall
        obtain ⟨d0, d1, d2, d3, d4, d5⟩ := hT.six
        go_wp2_with fail
        (with_reducible refine hcall.mono ?_)
        clear hcall
        clear d0 d1 d2 d3 d4 d5
        rintro e w4 ⟨rfl, bb⟩
        have hB := hB.trans (bb.mono hB.size)
        have hT := hT.below bb
        clear bb
        have hcall := showUser_no X w4 HUF.out HUU.out
        unfold uc at hcall
        obtain ⟨d0, d1, d2, d3, d4, d5⟩ := hT.six
        go_wp2_with fail
        (with_reducible refine hcall.mono ?_)
        clear hcall
        clear d0 d1 d2 d3 d4 d5
        rintro e w5 ⟨rfl, bb⟩
        have hB := hB.trans (bb.mono hB.size)
        have hT := hT.below bb
        clear bb
        have HB := Lib.hid hB
        clear hB hT
        go_wp2_with fail
        go_ret
        exact ⟨rfl, HB.out⟩
      | true =>
        obtain ⟨us, hus⟩ : ∃ v : ByteArray, v = ⟨t.u.show.toArray⟩ := ⟨_, rfl⟩
        have HUS := Lib.hid hus
        clear hus
        have hcall := show_no X w2 HTF.out HOK.out
        unfold tc at hcall
        obtain ⟨d0, d1, d2, d3, d4, d5⟩ := hT.six
        go_wp2_with fail
        (with_reducible refine hcall.mono ?_)
        clear hcall
        clear d0 d1 d2 d3 d4 d5
        rintro e w3 ⟨rfl, bb⟩
        have hB := hB.trans (bb.mono hB.size)
        have hT := hT.below bb
        clear bb
        have hcall := showUser_no X w3 HOF.out HOO.out
        unfold uc at hcall
        unfold Tp.obj at hcall
        obtain ⟨d0, d1, d2, d3, d4, d5⟩ := hT.six
        go_wp2_with fail
        (with_reducible refine hcall.mono ?_)
        clear hcall
        clear d0 d1 d2 d3 d4 d5
        rintro e w4 ⟨rfl, bb⟩
        have hB := hB.trans (bb.mono hB.size)
        have hT := hT.below bb
        clear bb
        have hcall := showUser_yes X w4 HUF.out HUU.out
        rw [← HUS.out] at hcall
        unfold uc at hcall
        obtain ⟨d0, d1, d2, d3, d4, d5⟩ := hT.six
        go_wp2_with fail
        (with_reducible refine hcall.mono ?_)
        clear hcall
        clear d0 d1 d2 d3 d4 d5
        rintro e w5 ⟨rfl, bb⟩
        have hB := hB.trans (bb.mono hB.size)
        have hT := hT.below bb
        clear bb
        have HB := Lib.hid hB
        clear hB hT
        go_wp2_with fail
        go_ret
        exact ⟨rfl, HB.out⟩
    | true =>
      cases uok with
      | false =>
        obtain ⟨os, hos⟩ : ∃ v : ByteArray, v = ⟨t.obj.show.toArray⟩ := ⟨_, rfl⟩
        have HOS := Lib.hid hos
        clear hos
        have hcall := show_no X w2 HTF.out HOK.out
        unfold tc at hcall
        obtain ⟨d0, d1, d2, d3, d4, d5⟩ := hT.six
        go_wp2_with fail
        (with_reducible refine hcall.mono ?_)
        clear hcall
        clear d0 d1 d2 d3 d4 d5
        rintro e w3 ⟨rfl, bb⟩
        have hB := hB.trans (bb.mono hB.size)
        have hT := hT.below bb
        clear bb
        have hcall := showUser_yes X w3 HOF.out HOO.out
        rw [← HOS.out] at hcall
        unfold uc at hcall
        unfold Tp.obj at hcall
        obtain ⟨d0, d1, d2, d3, d4, d5⟩ := hT.six
        go_wp2_with fail
        (with_reducible refine hcall.mono ?_)
        clear hcall
        clear d0 d1 d2 d3 d4 d5
        rintro e w4 ⟨rfl, bb⟩
        have hB := hB.trans (bb.mono hB.size)
        have hT := hT.below bb
        clear bb
        have hcall := showUser_no X w4 HUF.out HUU.out
        unfold uc at hcall
        obtain ⟨d0, d1, d2, d3, d4, d5⟩ := hT.six
        go_wp2_with fail
        (with_reducible refine hcall.mono ?_)
        clear hcall
        clear d0 d1 d2 d3 d4 d5
        rintro e w5 ⟨rfl, bb⟩
        have hB := hB.trans (bb.mono hB.size)
        have hT := hT.below bb
        clear bb
        have HB := Lib.hid hB
        clear hB hT
        go_wp2_with fail
        go_ret
        exact ⟨rfl, HB.out⟩
      | true =>
        obtain ⟨os, hos⟩ : ∃ v : ByteArray, v = ⟨t.obj.show.toArray⟩ := ⟨_, rfl⟩
        have HOS := Lib.hid hos
        clear hos
        obtain ⟨us, hus⟩ : ∃ v : ByteArray, v = ⟨t.u.show.toArray⟩ := ⟨_, rfl⟩
        have HUS := Lib.hid hus
        clear hus
        have re : t.r.toList.isEmpty = true := by rw [empty_eq]; exact decide_eq_true (HR.out rfl rfl)
        have hcall := show_no X w2 HTF.out HOK.out
        unfold tc at hcall
        obtain ⟨d0, d1, d2, d3, d4, d5⟩ := hT.six
        go_wp2_with fail
        (with_reducible refine hcall.mono ?_)
        clear hcall
        clear d0 d1 d2 d3 d4 d5
        rintro e w3 ⟨rfl, bb⟩
        have hB := hB.trans (bb.mono hB.size)
        have hT := hT.below bb
        clear bb
        have hcall := showUser_yes X w3 HOF.out HOO.out
        rw [← HOS.out] at hcall
        unfold uc at hcall
        unfold Tp.obj at hcall
        obtain ⟨d0, d1, d2, d3, d4, d5⟩ := hT.six
        go_wp2_with fail
        (with_reducible refine hcall.mono ?_)
        clear hcall
        clear d0 d1 d2 d3 d4 d5
        rintro e w4 ⟨rfl, bb⟩
        have hB := hB.trans (bb.mono hB.size)
        have hT := hT.below bb
        clear bb
        have hcall := showUser_yes X w4 HUF.out HUU.out
        rw [← HUS.out] at hcall
        unfold uc at hcall
        obtain ⟨d0, d1, d2, d3, d4, d5⟩ := hT.six
        go_wp2_with fail
        (with_reducible refine hcall.mono ?_)
        clear hcall
        clear d0 d1 d2 d3 d4 d5
        rintro e w5 ⟨rfl, bb⟩
        have hB := hB.trans (bb.mono hB.size)
        have hT := hT.below bb
        clear bb
        obtain ⟨d0, d1, d2, d3, d4, d5⟩ := hT.six
        have HB := Lib.hid hB
        clear hB hT
        go_wp2_with fail
        go_ret
        exact ⟨rfl, HB.out⟩
end Go.Proofs.Ytpiojnphbanggaa.TupleParts
