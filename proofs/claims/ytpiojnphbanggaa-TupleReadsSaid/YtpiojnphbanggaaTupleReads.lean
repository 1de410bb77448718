/- The walk of TupleReads. -/
import Derived.Test.YtpiojnphbanggaaTupleUse
namespace Go.Proofs.Ytpiojnphbanggaa.TupleReads
open Go.RowKit Base KeyPlain TuplePlain TupleRef TupleSpec TupleEq TupleUse

theorem us_ok_f {u : Us} (h : u.ok = true) : UsF u := by
  obtain ⟨b1, b2, b3⟩ := Us.okE h
  have k4 := (name_len b1).2; have k5 := (id_len b2).2; have k6 := rel_len b3
  rw [bl_size] at k4 k5
  exact ⟨by omega, by omega, by omega⟩
theorem tp_ok_f {t : Tp} (h : t.ok = true) : TpF t := by
  obtain ⟨a1, a2, a3, a4⟩ := t.okE h
  have k1 := (name_len a1).2; have k2 := (id_len a2).2; have k3 := (name_len a3).2
  rw [bl_size] at k1 k2 k3
  exact ⟨by omega, by omega, by omega, us_ok_f a4⟩
theorem tc_z : tc ztp = #[.string ⟨#[]⟩, .string ⟨#[]⟩, .string ⟨#[]⟩, .string ⟨#[]⟩, .string ⟨#[]⟩, .string ⟨#[]⟩] := rfl
theorem uc_z : uc zus = #[.string ⟨#[]⟩, .string ⟨#[]⟩, .string ⟨#[]⟩] := rfl
set_option maxRecDepth 100000 in
set_option maxHeartbeats 12800000 in
theorem reads_any (X : Specs) (s : ByteArray) (W : World) : Calls Try.prog 4 #[.string s] W (Law W) := by
  have hB : Below W.heap.size W W := Below.refl _ _
  unfold Law
  go_enter Try.func4, Try.ntmps4
  have hcall := awake_any X W
  unfold Law at hcall
  go_wp2_with fail
  (with_reducible refine hcall.mono ?_)
  clear hcall
  rintro e w1 ⟨rfl, bb⟩
  have hB := hB.trans (bb.mono hB.size)
  clear bb
  by_cases hs : s.size ≤ 400
  rotate_left
  · have hsI : (400 : Int) < (s.size : Int) := by omega
    have hcall := awake_any X w1
    unfold Law at hcall
    go_wp2_with fail
    (with_reducible refine hcall.mono ?_)
    clear hcall
    rintro e w2 ⟨rfl, bb⟩
    have HB := Lib.hid (hB.trans (bb.mono hB.size))
    clear bb hB
    go_wp2_with fail
    go_ret
    exact ⟨rfl, HB.out⟩
  have hsI : ¬ (400 : Int) < (s.size : Int) := by omega
  have hsz : s.size ≤ 1000000 := by omega
  have hcall := X.read s w1 hsz
  go_wp2_with fail
  (with_reducible refine hcall.mono ?_)
  clear hcall
  rintro e w2 ⟨o, ho, rfl, bb⟩
  have hB := hB.trans (bb.mono hB.size)
  clear bb
  clear hsI
  obtain ⟨nb, hnb⟩ : ∃ v, v = nameL (bl s) := ⟨_, rfl⟩
  obtain ⟨ib, hib⟩ : ∃ v, v = idL (bl s) := ⟨_, rfl⟩
  have HN := Lib.hid hnb
  have HI := Lib.hid hib
  clear hnb hib
  have nn : (nb == nb) = true := by simp
  have ii : (ib == ib) = true := by simp
  have ke : (s.toList == s.toList) = true := by simp
  cases o with
  | none =>
    have heq := tp_eq ztp ztp
    rw [decide_eq_true rfl] at heq
    simp only [tc_z] at heq
    clear ho
    simp only [okE, Option.getD_none, Option.isSome_none, Bool.false_eq_true, if_false, tc_z]
    obtain ⟨w3, hw⟩ : ∃ v, v = w2.alloc (.cells (tc ztp) 25) := ⟨_, rfl⟩
    have bb : Below w2.heap.size w2 w3 := by rw [hw]; exact al _ _
    obtain ⟨bt, hbx⟩ : ∃ v, v = w2.heap.size := ⟨_, rfl⟩
    have hnew : Tb w3 bt ztp := by rw [hw, hbx]; exact Tb.new w2 _
    have hB := hB.trans (bb.mono hB.size)
    have hbt := hnew
    have HWbt := Lib.hid hw
    have HBXbt := Lib.hid hbx
    clear hw hbx bb hnew
    rw [tc_z] at HWbt
    go_upto_region 4 with fail
    try rw [← HWbt.out]
    try rw [← HBXbt.out]
    clear HWbt
    have hcall := X.readUser s w3 hsz
    go_wp2_with fail
    (with_reducible refine hcall.mono ?_)
    clear hcall
    rintro e w4 ⟨o2, ho2, rfl, bb⟩
    have hB := hB.trans (bb.mono hB.size)
    have hbt := hbt.below bb
    clear bb
    cases o2 with
    | none =>
      have heu := us_eq zus zus
      rw [decide_eq_true rfl] at heu
      simp only [uc_z] at heu
      clear ho2
      simp only [okE, Option.getD_none, Option.isSome_none, Bool.false_eq_true, if_false, uc_z]
      obtain ⟨w5, hw⟩ : ∃ v, v = w4.alloc (.cells (uc zus) 23) := ⟨_, rfl⟩
      have bb : Below w4.heap.size w4 w5 := by rw [hw]; exact al _ _
      obtain ⟨bu, hbx⟩ : ∃ v, v = w4.heap.size := ⟨_, rfl⟩
      have hnew : Ub w5 bu zus := by rw [hw, hbx]; exact Ub.new w4 _
      have hB := hB.trans (bb.mono hB.size)
      have hbt := hbt.below bb
      have hbu := hnew
      have HWbu := Lib.hid hw
      have HBXbu := Lib.hid hbx
      clear hw hbx bb hnew
      rw [uc_z] at HWbu
      go_upto_region 5 with fail
      try rw [← HWbu.out]
      try rw [← HBXbu.out]
      clear HWbu
      have hsx := hbt.six
      unfold ztp zus at hsx
      dsimp only at hsx
      obtain ⟨d0, d1, d2, d3, d4, d5⟩ := hsx
      have hsy := hbu.three
      unfold zus at hsy
      dsimp only at hsy
      obtain ⟨c0, c1, c2⟩ := hsy
      have hcall := X.name s w5 hsz
      rw [← HN.out] at hcall
      go_wp2_with fail
      (with_reducible refine hcall.mono ?_)
      clear hcall
      rintro e w6 ⟨rfl, bb⟩
      have hB := hB.trans (bb.mono hB.size)
      have hbt := hbt.below bb
      have hbu := hbu.below bb
      clear bb
      have hcall := refName_any s w6 hsz
      rw [← HN.out] at hcall
      go_wp2_with fail
      (with_reducible refine hcall.mono ?_)
      clear hcall
      rintro e w7 ⟨rfl, rfl⟩
      have hcall := X.id s w6 hsz
      rw [← HI.out] at hcall
      go_wp2_with fail
      (with_reducible refine hcall.mono ?_)
      clear hcall
      rintro e w7 ⟨rfl, bb⟩
      have hB := hB.trans (bb.mono hB.size)
      have hbt := hbt.below bb
      have hbu := hbu.below bb
      clear bb
      have hcall := refID_any s w7 hsz
      rw [← HI.out] at hcall
      go_wp2_with fail
      (with_reducible refine hcall.mono ?_)
      clear hcall
      rintro e w8 ⟨rfl, rfl⟩
      have HB := Lib.hid hB
      clear hB hbt hbu
      go_wp2_with fail
      go_ret
      exact ⟨rfl, HB.out⟩
    | some u =>
      obtain ⟨hok2, hsh2⟩ := ho2
      simp only [okE, Option.getD_some, Option.isSome_some, if_true]
      have HU2 := Lib.hid hok2
      have HUF := Lib.hid (us_ok_f hok2)
      clear hok2
      unfold uc
      obtain ⟨w5, hw⟩ : ∃ v, v = w4.alloc (.cells (uc u) 23) := ⟨_, rfl⟩
      have bb : Below w4.heap.size w4 w5 := by rw [hw]; exact al _ _
      obtain ⟨bu, hbx⟩ : ∃ v, v = w4.heap.size := ⟨_, rfl⟩
      have hnew : Ub w5 bu u := by rw [hw, hbx]; exact Ub.new w4 _
      have hB := hB.trans (bb.mono hB.size)
      have hbt := hbt.below bb
      have hbu := hnew
      have HWbu := Lib.hid hw
      have HBXbu := Lib.hid hbx
      clear hw hbx bb hnew
      unfold uc at HWbu
      go_upto_region 5 with fail
      try rw [← HWbu.out]
      try rw [← HBXbu.out]
      clear HWbu
      have hsx := hbt.six
      unfold ztp zus at hsx
      dsimp only at hsx
      obtain ⟨d0, d1, d2, d3, d4, d5⟩ := hsx
      have hcall := refUser_any u w5 HUF.out
      rw [HU2.out] at hcall
      unfold uc at hcall
      have hsy := hbu.three
      obtain ⟨c0, c1, c2⟩ := hsy
      go_wp2_with fail
      (with_reducible refine hcall.mono ?_)
      clear hcall
      rintro e w6 ⟨rfl, bb⟩
      have hB := hB.trans (bb.mono hB.size)
      have hbt := hbt.below bb
      have hbu := hbu.below bb
      clear bb
      clear c0 c1 c2
      clear d0 d1 d2 d3 d4 d5
      have hcall := refShowUser_any u w6 HUF.out
      rw [show (⟨u.show.toArray⟩ : ByteArray) = s from ba_of (by rw [str_bl]; exact hsh2)] at hcall
      unfold uc at hcall
      have hsy := hbu.three
      obtain ⟨c0, c1, c2⟩ := hsy
      go_wp2_with fail
      (with_reducible refine hcall.mono ?_)
      clear hcall
      rintro e w7 ⟨rfl, bb⟩
      have hB := hB.trans (bb.mono hB.size)
      have hbt := hbt.below bb
      have hbu := hbu.below bb
      clear bb
      clear c0 c1 c2
      have hcall := X.name s w7 hsz
      rw [← HN.out] at hcall
      go_wp2_with fail
      (with_reducible refine hcall.mono ?_)
      clear hcall
      rintro e w8 ⟨rfl, bb⟩
      have hB := hB.trans (bb.mono hB.size)
      have hbt := hbt.below bb
      have hbu := hbu.below bb
      clear bb
      have hcall := refName_any s w8 hsz
      rw [← HN.out] at hcall
      go_wp2_with fail
      (with_reducible refine hcall.mono ?_)
      clear hcall
      rintro e w9 ⟨rfl, rfl⟩
      have hcall := X.id s w8 hsz
      rw [← HI.out] at hcall
      go_wp2_with fail
      (with_reducible refine hcall.mono ?_)
      clear hcall
      rintro e w9 ⟨rfl, bb⟩
      have hB := hB.trans (bb.mono hB.size)
      have hbt := hbt.below bb
      have hbu := hbu.below bb
      clear bb
      have hcall := refID_any s w9 hsz
      rw [← HI.out] at hcall
      go_wp2_with fail
      (with_reducible refine hcall.mono ?_)
      clear hcall
      rintro e w10 ⟨rfl, rfl⟩
      have HB := Lib.hid hB
      clear hB hbt hbu
      go_wp2_with fail
      go_ret
      exact ⟨rfl, HB.out⟩
  | some t =>
    obtain ⟨hok, hsh⟩ := ho
    simp only [okE, Option.getD_some, Option.isSome_some, if_true]
    have HOK := Lib.hid hok
    have HTF := Lib.hid (tp_ok_f hok)
    clear hok
    unfold tc
    obtain ⟨w3, hw⟩ : ∃ v, v = w2.alloc (.cells (tc t) 25) := ⟨_, rfl⟩
    have bb : Below w2.heap.size w2 w3 := by rw [hw]; exact al _ _
    obtain ⟨bt, hbx⟩ : ∃ v, v = w2.heap.size := ⟨_, rfl⟩
    have hnew : Tb w3 bt t := by rw [hw, hbx]; exact Tb.new w2 _
    have hB := hB.trans (bb.mono hB.size)
    have hbt := hnew
    have HWbt := Lib.hid hw
    have HBXbt := Lib.hid hbx
    clear hw hbx bb hnew
    unfold tc at HWbt
    go_upto_region 4 with fail
    try rw [← HWbt.out]
    try rw [← HBXbt.out]
    clear HWbt
    have hcall := X.readUser s w3 hsz
    go_wp2_with fail
    (with_reducible refine hcall.mono ?_)
    clear hcall
    rintro e w4 ⟨o2, ho2, rfl, bb⟩
    have hB := hB.trans (bb.mono hB.size)
    have hbt := hbt.below bb
    clear bb
    cases o2 with
    | none =>
      have heu := us_eq zus zus
      rw [decide_eq_true rfl] at heu
      simp only [uc_z] at heu
      clear ho2
      simp only [okE, Option.getD_none, Option.isSome_none, Bool.false_eq_true, if_false, uc_z]
      obtain ⟨w5, hw⟩ : ∃ v, v = w4.alloc (.cells (uc zus) 23) := ⟨_, rfl⟩
      have bb : Below w4.heap.size w4 w5 := by rw [hw]; exact al _ _
      obtain ⟨bu, hbx⟩ : ∃ v, v = w4.heap.size := ⟨_, rfl⟩
      have hnew : Ub w5 bu zus := by rw [hw, hbx]; exact Ub.new w4 _
      have hB := hB.trans (bb.mono hB.size)
      have hbt := hbt.below bb
      have hbu := hnew
      have HWbu := Lib.hid hw
      have HBXbu := Lib.hid hbx
      clear hw hbx bb hnew
      rw [uc_z] at HWbu
      go_upto_region 5 with fail
      try rw [← HWbu.out]
      try rw [← HBXbu.out]
      clear HWbu
      have hcall := refCheck_any t w5 HTF.out
      rw [HOK.out] at hcall
      unfold tc at hcall
      have hsx := hbt.six
      obtain ⟨d0, d1, d2, d3, d4, d5⟩ := hsx
      go_wp2_with fail
      (with_reducible refine hcall.mono ?_)
      clear hcall
      rintro e w6 ⟨rfl, bb⟩
      have hB := hB.trans (bb.mono hB.size)
      have hbt := hbt.below bb
      have hbu := hbu.below bb
      clear bb
      clear d0 d1 d2 d3 d4 d5
      have hcall := refShow_any t w6 HTF.out
      rw [show (⟨t.show.toArray⟩ : ByteArray) = s from ba_of (by rw [str_bl]; exact hsh)] at hcall
      unfold tc at hcall
      have hsx := hbt.six
      obtain ⟨d0, d1, d2, d3, d4, d5⟩ := hsx
      go_wp2_with fail
      (with_reducible refine hcall.mono ?_)
      clear hcall
      rintro e w7 ⟨rfl, bb⟩
      have hB := hB.trans (bb.mono hB.size)
      have hbt := hbt.below bb
      have hbu := hbu.below bb
      clear bb
      clear d0 d1 d2 d3 d4 d5
      have hsy := hbu.three
      unfold zus at hsy
      dsimp only at hsy
      obtain ⟨c0, c1, c2⟩ := hsy
      have hcall := X.name s w7 hsz
      rw [← HN.out] at hcall
      go_wp2_with fail
      (with_reducible refine hcall.mono ?_)
      clear hcall
      rintro e w8 ⟨rfl, bb⟩
      have hB := hB.trans (bb.mono hB.size)
      have hbt := hbt.below bb
      have hbu := hbu.below bb
      clear bb
      have hcall := refName_any s w8 hsz
      rw [← HN.out] at hcall
      go_wp2_with fail
      (with_reducible refine hcall.mono ?_)
      clear hcall
      rintro e w9 ⟨rfl, rfl⟩
      have hcall := X.id s w8 hsz
      rw [← HI.out] at hcall
      go_wp2_with fail
      (with_reducible refine hcall.mono ?_)
      clear hcall
      rintro e w9 ⟨rfl, bb⟩
      have hB := hB.trans (bb.mono hB.size)
      have hbt := hbt.below bb
      have hbu := hbu.below bb
      clear bb
      have hcall := refID_any s w9 hsz
      rw [← HI.out] at hcall
      go_wp2_with fail
      (with_reducible refine hcall.mono ?_)
      clear hcall
      rintro e w10 ⟨rfl, rfl⟩
      have HB := Lib.hid hB
      clear hB hbt hbu
      go_wp2_with fail
      go_ret
      exact ⟨rfl, HB.out⟩
    | some u =>
      obtain ⟨hok2, hsh2⟩ := ho2
      simp only [okE, Option.getD_some, Option.isSome_some, if_true]
      have HU2 := Lib.hid hok2
      have HUF := Lib.hid (us_ok_f hok2)
      clear hok2
      unfold uc
      obtain ⟨w5, hw⟩ : ∃ v, v = w4.alloc (.cells (uc u) 23) := ⟨_, rfl⟩
      have bb : Below w4.heap.size w4 w5 := by rw [hw]; exact al _ _
      obtain ⟨bu, hbx⟩ : ∃ v, v = w4.heap.size := ⟨_, rfl⟩
      have hnew : Ub w5 bu u := by rw [hw, hbx]; exact Ub.new w4 _
      have hB := hB.trans (bb.mono hB.size)
      have hbt := hbt.below bb
      have hbu := hnew
      have HWbu := Lib.hid hw
      have HBXbu := Lib.hid hbx
      clear hw hbx bb hnew
      unfold uc at HWbu
      go_upto_region 5 with fail
      try rw [← HWbu.out]
      try rw [← HBXbu.out]
      clear HWbu
      have hcall := refCheck_any t w5 HTF.out
      rw [HOK.out] at hcall
      unfold tc at hcall
      have hsx := hbt.six
      obtain ⟨d0, d1, d2, d3, d4, d5⟩ := hsx
      go_wp2_with fail
      (with_reducible refine hcall.mono ?_)
      clear hcall
      rintro e w6 ⟨rfl, bb⟩
      have hB := hB.trans (bb.mono hB.size)
      have hbt := hbt.below bb
      have hbu := hbu.below bb
      clear bb
      clear d0 d1 d2 d3 d4 d5
      have hcall := refShow_any t w6 HTF.out
      rw [show (⟨t.show.toArray⟩ : ByteArray) = s from ba_of (by rw [str_bl]; exact hsh)] at hcall
      unfold tc at hcall
      have hsx := hbt.six
      obtain ⟨d0, d1, d2, d3, d4, d5⟩ := hsx
      go_wp2_with fail
      (with_reducible refine hcall.mono ?_)
      clear hcall
      rintro e w7 ⟨rfl, bb⟩
      have hB := hB.trans (bb.mono hB.size)
      have hbt := hbt.below bb
      have hbu := hbu.below bb
      clear bb
      clear d0 d1 d2 d3 d4 d5
      have hcall := refUser_any u w7 HUF.out
      rw [HU2.out] at hcall
      unfold uc at hcall
      have hsy := hbu.three
      obtain ⟨c0, c1, c2⟩ := hsy
      go_wp2_with fail
      (with_reducible refine hcall.mono ?_)
      clear hcall
      rintro e w8 ⟨rfl, bb⟩
      have hB := hB.trans (bb.mono hB.size)
      have hbt := hbt.below bb
      have hbu := hbu.below bb
      clear bb
      clear c0 c1 c2
      have hcall := refShowUser_any u w8 HUF.out
      rw [show (⟨u.show.toArray⟩ : ByteArray) = s from ba_of (by rw [str_bl]; exact hsh2)] at hcall
      unfold uc at hcall
      have hsy := hbu.three
      obtain ⟨c0, c1, c2⟩ := hsy
      go_wp2_with fail
      (with_reducible refine hcall.mono ?_)
      clear hcall
      rintro e w9 ⟨rfl, bb⟩
      have hB := hB.trans (bb.mono hB.size)
      have hbt := hbt.below bb
      have hbu := hbu.below bb
      clear bb
      clear c0 c1 c2
      have hcall := X.name s w9 hsz
      rw [← HN.out] at hcall
      go_wp2_with fail
      (with_reducible refine hcall.mono ?_)
      clear hcall
      rintro e w10 ⟨rfl, bb⟩
      have hB := hB.trans (bb.mono hB.size)
      have hbt := hbt.below bb
      have hbu := hbu.below bb
      clear bb
      have hcall := refName_any s w10 hsz
      rw [← HN.out] at hcall
      go_wp2_with fail
      (with_reducible refine hcall.mono ?_)
      clear hcall
      rintro e w11 ⟨rfl, rfl⟩
      have hcall := X.id s w10 hsz
      rw [← HI.out] at hcall
      go_wp2_with fail
      (with_reducible refine hcall.mono ?_)
      clear hcall
      rintro e w11 ⟨rfl, bb⟩
      have hB := hB.trans (bb.mono hB.size)
      have hbt := hbt.below bb
      have hbu := hbu.below bb
      clear bb
      have hcall := refID_any s w11 hsz
      rw [← HI.out] at hcall
      go_wp2_with fail
      (with_reducible refine hcall.mono ?_)
      clear hcall
      rintro e w12 ⟨rfl, rfl⟩
      have HB := Lib.hid hB
      clear hB hbt hbu
      go_wp2_with fail
      go_ret
      exact ⟨rfl, HB.out⟩
end Go.Proofs.Ytpiojnphbanggaa.TupleReads
