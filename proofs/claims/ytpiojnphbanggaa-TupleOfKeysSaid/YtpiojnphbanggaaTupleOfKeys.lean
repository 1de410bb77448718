/- The walk of TupleOfKeys. -/
import Derived.Test.YtpiojnphbanggaaTupleUse
namespace Go.Proofs.Ytpiojnphbanggaa.TupleOfKeys
open Go.RowKit Base KeyPlain TuplePlain TupleRef TupleSpec TupleEq TupleUse

theorem us_ok_f {u : Us} (h : u.ok = true) : UsF u := by
  obtain ⟨b1, b2, b3⟩ := Us.okE h
  have k4 := (name_len b1).2; have k5 := (id_len b2).2; have k6 := rel_len b3
  rw [bl_size] at k4 k5
  exact ⟨by omega, by omega, by omega⟩
theorem tp_ok_f {t : Tp} (h : t.ok = true) : TpF t := by
  obtain ⟨a1, a2, a3, a4⟩ := t.okE h
  have k1 := (name_len a1).2; have k2 := (id_len a2).2; have k3 := (name_len a3).2
  rw [bl_size] at k1 k2 k3
  exact ⟨by omega, by omega, by omega, us_ok_f a4⟩
theorem tc_z : tc ztp = #[.string ⟨#[]⟩, .string ⟨#[]⟩, .string ⟨#[]⟩, .string ⟨#[]⟩, .string ⟨#[]⟩, .string ⟨#[]⟩] := rfl
theorem uc_z : uc zus = #[.string ⟨#[]⟩, .string ⟨#[]⟩, .string ⟨#[]⟩] := rfl
set_option maxRecDepth 100000 in
set_option maxHeartbeats 12800000 in
theorem ofKeys_any (X : Specs) (s : ByteArray) (W : World) : Calls Try.prog 6 #[.string s] W (Law W) := by
  have hB : Below W.heap.size W W := Below.refl _ _
  unfold Law
  go_enter Try.func6, Try.ntmps6
  have hcall := awake_any X W
  unfold Law at hcall
  go_wp2_with fail
  (with_reducible refine hcall.mono ?_)
  clear hcall
  rintro e w1 ⟨rfl, bb⟩
  have hB := hB.trans (bb.mono hB.size)
  clear bb
  by_cases hs : s.size ≤ 400
  rotate_left
  · have hsI : (400 : Int) < (s.size : Int) := by omega
    have hcall := awake_any X w1
    unfold Law at hcall
    go_wp2_with fail
    (with_reducible refine hcall.mono ?_)
    clear hcall
    rintro e w2 ⟨rfl, bb⟩
    have HB := Lib.hid (hB.trans (bb.mono hB.size))
    clear bb hB
    go_wp2_with fail
    go_ret
    exact ⟨rfl, HB.out⟩
  have hsI : ¬ (400 : Int) < (s.size : Int) := by omega
  have hsz : s.size ≤ 1000000 := by omega
  have hcall := X.ofKey s w1 hsz
  go_wp2_with fail
  (with_reducible refine hcall.mono ?_)
  clear hcall
  rintro e w2 ⟨o, ho, rfl, bb⟩
  have hB := hB.trans (bb.mono hB.size)
  clear bb
  clear hsI
  cases o with
  | none =>
    have heq := tp_eq ztp ztp
    rw [decide_eq_true rfl] at heq
    simp only [tc_z] at heq
    clear ho
    simp only [okE, Option.map_none, Option.getD_none, Option.isSome_none, Bool.false_eq_true, if_false, tc_z]
    obtain ⟨w3, hw⟩ : ∃ v, v = w2.alloc (.cells (tc ztp) 25) := ⟨_, rfl⟩
    have bb : Below w2.heap.size w2 w3 := by rw [hw]; exact al _ _
    obtain ⟨bt, hbx⟩ : ∃ v, v = w2.heap.size := ⟨_, rfl⟩
    have hnew : Tb w3 bt ztp := by rw [hw, hbx]; exact Tb.new w2 _
    have hB := hB.trans (bb.mono hB.size)
    have hbt := hnew
    have HWbt := Lib.hid hw
    have HBXbt := Lib.hid hbx
    clear hw hbx bb hnew
    rw [tc_z] at HWbt
    go_upto_region 4 with fail
    try rw [← HWbt.out]
    try rw [← HBXbt.out]
    clear HWbt
    have hsx := hbt.six
    unfold ztp zus at hsx
    dsimp only at hsx
    obtain ⟨d0, d1, d2, d3, d4, d5⟩ := hsx
    have HB := Lib.hid hB
    clear hB hbt
    go_wp2_with fail
    go_ret
    exact ⟨rfl, HB.out⟩
  | some v =>
    obtain ⟨t, bk⟩ := v
    obtain ⟨hok, hsh⟩ := ho
    simp only [okE, Option.map_some, Option.getD_some, Option.isSome_some, if_true]
    have HOK := Lib.hid hok
    have HTF := Lib.hid (tp_ok_f hok)
    clear hok
    unfold tc
    obtain ⟨w3, hw⟩ : ∃ v, v = w2.alloc (.cells (tc t) 25) := ⟨_, rfl⟩
    have bb : Below w2.heap.size w2 w3 := by rw [hw]; exact al _ _
    obtain ⟨bt, hbx⟩ : ∃ v, v = w2.heap.size := ⟨_, rfl⟩
    have hnew : Tb w3 bt t := by rw [hw, hbx]; exact Tb.new w2 _
    have hB := hB.trans (bb.mono hB.size)
    have hbt := hnew
    have HWbt := Lib.hid hw
    have HBXbt := Lib.hid hbx
    clear hw hbx bb hnew
    unfold tc at HWbt
    go_upto_region 4 with fail
    try rw [← HWbt.out]
    try rw [← HBXbt.out]
    clear HWbt
    have hcall := refCheck_any t w3 HTF.out
    rw [HOK.out] at hcall
    unfold tc at hcall
    have hsx := hbt.six
    obtain ⟨d0, d1, d2, d3, d4, d5⟩ := hsx
    go_wp2_with fail
    (with_reducible refine hcall.mono ?_)
    clear hcall
    clear d0 d1 d2 d3 d4 d5
    rintro e w4 ⟨rfl, bb⟩
    have hB := hB.trans (bb.mono hB.size)
    have hbt := hbt.below bb
    clear bb
    cases bk with
    | false =>
      have hcall := refKey_any t w4 HOK.out
      rw [show (⟨t.key.toArray⟩ : ByteArray) = s from ba_of (by rw [str_bl]; exact hsh)] at hcall
      have ke : (s.toList == s.toList) = true := by simp
      clear hsh
      unfold tc at hcall
      have hsx := hbt.six
      obtain ⟨d0, d1, d2, d3, d4, d5⟩ := hsx
      go_wp2_with fail
      (with_reducible refine hcall.mono ?_)
      clear hcall
      clear d0 d1 d2 d3 d4 d5
      rintro e w5 ⟨rfl, bb⟩
      have hB := hB.trans (bb.mono hB.size)
      have hbt := hbt.below bb
      clear bb
      have HB := Lib.hid hB
      clear hB hbt
      go_wp2_with fail
      go_ret
      exact ⟨rfl, HB.out⟩
    | true =>
      have hcall := refBack_any t w4 HOK.out
      rw [show (⟨t.back.toArray⟩ : ByteArray) = s from ba_of (by rw [str_bl]; exact hsh)] at hcall
      have ke : (s.toList == s.toList) = true := by simp
      clear hsh
      unfold tc at hcall
      have hsx := hbt.six
      obtain ⟨d0, d1, d2, d3, d4, d5⟩ := hsx
      go_wp2_with fail
      (with_reducible refine hcall.mono ?_)
      clear hcall
      clear d0 d1 d2 d3 d4 d5
      rintro e w5 ⟨rfl, bb⟩
      have hB := hB.trans (bb.mono hB.size)
      have hbt := hbt.below bb
      clear bb
      have HB := Lib.hid hB
      clear hB hbt
      go_wp2_with fail
      go_ret
      exact ⟨rfl, HB.out⟩
end Go.Proofs.Ytpiojnphbanggaa.TupleOfKeys
