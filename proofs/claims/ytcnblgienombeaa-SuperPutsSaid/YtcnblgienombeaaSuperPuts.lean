/- The walk of SuperPuts, by what the calls are asked for. -/
import Derived.Test.YtcnblgienombeaaSuperAwake
import Derived.Test.YtcnblgienombeaaInv2
import Derived.Test.YtcnblgienombeaaFrames
namespace Go.Proofs.Ytcnblgienombeaa.SuperPuts
open Go.RowKit Base SumPlain SumMem SumFill SumOf PagePlain PageSmall PageBytes PageLay PagePut PageFour PageAwake SuperPlain SuperRefCheck SuperPlumb SuperSpec SuperAwake SuperRefPut

/-- two boxes and a slot's bytes -/
structure JP (W : World) (bx y b : Nat) (t : TypeId) (x : Sp) (w : World) : Prop where
  jx : Bs w bx x
  jy : Bs w y x
  ja : Arr w b t (sbytes x)
  jb : Below W.heap.size W w
theorem JP.below {W w w' : World} {bx y b : Nat} {t : TypeId} {x : Sp} (h : JP W bx y b t x w) (hb : Below w.heap.size w w') : JP W bx y b t x w' :=
  ⟨h.jx.below hb, h.jy.below hb, h.ja.below hb, h.jb.trans (hb.mono h.jb.size)⟩
set_option maxRecDepth 100000 in
set_option maxHeartbeats 12800000 in
theorem puts_any (S : Specs) (W : World) (x : Sp) (hx : InS x) : Calls Try.prog 3 #[sv x] W (Law W) := by
  have HS := Lib.hid S
  have HX := Lib.hid hx
  clear S hx
  obtain ⟨ep, root, free, pages⟩ := x
  have x0 := bs_new W ⟨ep, root, free, pages⟩
  have h0 := al' W (.cells #[.int .i64 ep, .int .i64 root, .int .i64 free, .int .i64 pages] 23)
  simp only at x0
  obtain ⟨w1, hw1⟩ : ∃ v, v = W.alloc (.cells #[.int .i64 ep, .int .i64 root, .int .i64 free, .int .i64 pages] 23) := ⟨_, rfl⟩
  rw [← hw1] at x0 h0
  have HW1 := Lib.hid hw1
  clear hw1
  unfold Law
  go_enter Try.func3, Try.ntmps3
  go_upto_region 1 with fail
  rw [← HW1.out]
  obtain ⟨bx, hbx⟩ : ∃ n, n = W.heap.size := ⟨_, rfl⟩
  rw [← hbx] at x0 ⊢
  have hbxW : W.heap.size ≤ bx := by omega
  clear hbx HW1
  have hcall := new_t h0
  go_wp2_with fail
  (with_reducible refine hcall.mono ?_)
  clear hcall
  rintro e w2 ⟨g, rfl, s2, b2, hg⟩
  have hxg : bx ≠ g := by have := x0.lt; omega
  have x2 := x0.below b2
  clear x0 b2 hg h0
  have hcall := awake_any HS.out w2
  unfold Law at hcall
  go_wp2_with fail
  (with_reducible refine hcall.mono ?_)
  clear hcall
  rintro e w3 ⟨rfl, b3⟩
  have x3 := x2.below b3
  have s3 := s2.below b3
  clear x2 s2 b3
  obtain ⟨c0, c1, c2, c3⟩ := x3.cells
  have hcall := put_s HS.out s3 (by omega) ⟨ep, root, free, pages⟩ HX.out
  go_wp2_with fail
  (with_reducible refine hcall.mono ?_)
  clear hcall c0 c1 c2 c3
  rintro e w4 ⟨s4, o4, hcase⟩
  have x4 := x3.only o4 hxg
  have hr := rcheck_any w4 ⟨ep, root, free, pages⟩
  obtain ⟨c0, c1, c2, c3⟩ := x4.cells
  have hgl := s3.lt
  clear s3
  rcases hcase with ⟨hok, b, t, rfl, hb4, a4⟩ | ⟨hok, rfl⟩
  · have HOK := Lib.hid hok
    rw [decide_eq_true hok] at hr
    clear hok
    have hbg : b ≠ g := by omega
    have hbx1 : b ≠ bx := by have := x3.lt; omega
    clear o4 x3 hgl hb4
    go_wp2_with fail
    (with_reducible refine hr.mono ?_)
    clear hr
    rintro e w5 ⟨rfl, b5⟩
    have x5 := x4.below b5
    have s5 := s4.below b5
    have a5 := a4.below b5
    clear x4 s4 a4 b5 c0 c1 c2 c3
    have hr := HS.out.check w5 ⟨ep, root, free, pages⟩ HX.out
    rw [decide_eq_true HOK.out] at hr
    obtain ⟨c0, c1, c2, c3⟩ := x5.cells
    go_wp2_with fail
    (with_reducible refine hr.mono ?_)
    clear hr
    rintro e w6 ⟨rfl, b6⟩
    have x6 := x5.below b6
    have s6 := s5.below b6
    have a6 := a5.below b6
    clear x5 s5 a5 b6 c0 c1 c2 c3
    have hcall := get_s HS.out s6 (by omega) (ep % 2) ⟨b, 0, none⟩ 256 (sbytes ⟨ep, root, free, pages⟩) (Arr.rowX a6 hbg) (sbytes_len _) (Nat.le_refl _)
    rw [getS_bytes HOK.out, if_pos rfl, show ansOf (.inr ⟨ep, root, free, pages⟩) = .tuple #[.agg #[.int .i64 ep, .int .i64 root, .int .i64 free, .int .i64 pages], .int .i64 0] from rfl] at hcall
    go_wp2_with fail
    (with_reducible refine hcall.mono ?_)
    clear hcall
    rintro e w7 ⟨rfl, s7, o7⟩
    have x7 := x6.only o7 hxg
    have a7 := a6.only o7 hbg
    clear x6 s6 a6 o7
    obtain ⟨w8, hw8⟩ : ∃ v, v = w7.alloc (.cells #[.int .i64 ep, .int .i64 root, .int .i64 free, .int .i64 pages] 23) := ⟨_, rfl⟩
    have hb8 : Below w7.heap.size w7 w8 := by rw [hw8]; exact al' _ _
    have x8 := x7.below hb8
    have s8 := s7.below hb8
    have a8 := a7.below hb8
    have y8 : Bs w8 w7.heap.size ⟨ep, root, free, pages⟩ := by rw [hw8]; exact bs_new w7 ⟨ep, root, free, pages⟩
    have hyg : w7.heap.size ≠ g := by have := s7.lt; omega
    have HW8 := Lib.hid hw8
    clear x7 s7 a7 hb8 hw8
    generalize hby : w7.heap.size = y at *
    have hcall := get_s HS.out s8 (by omega) (1 - ep % 2) ⟨b, 0, none⟩ 256 (sbytes ⟨ep, root, free, pages⟩) (Arr.rowX a8 hbg) (sbytes_len _) (Nat.le_refl _)
    rw [getS_bytes HOK.out, if_neg (by show ¬ ep % 2 = 1 - ep % 2; omega), show ansOf (.inl 70) = .tuple #[.agg #[.int .i64 0, .int .i64 0, .int .i64 0, .int .i64 0], .int .i64 70] from rfl] at hcall
    have hrg : (-9223372036854775808 ≤ 1 - ep % 2) = True := eq_true (by omega)
    have hrg2 : (1 - ep % 2 ≤ 9223372036854775807) = True := eq_true (by omega)
    go_upto_region 11 with fail
    try rw [← HW8.out]
    try rw [hby]
    go_wp2_with fail
    (with_reducible refine hcall.mono ?_)
    clear hcall hrg hrg2
    rintro e w9 ⟨rfl, s9, o9⟩
    have x9 := x8.only o9 hxg
    have y9 := y8.only o9 hyg
    have a9 := a8.only o9 hbg
    clear x8 y8 a8 s8 o9
    have hja : JP W bx y b t ⟨ep, root, free, pages⟩ w9 := ⟨x9, y9, a9, s9.base⟩
    have hJ0 := hja.below (w' := World.drew (w9.alloc (.cells #[.int .i64 0, .int .i64 0, .int .i64 0, .int .i64 0] 23))) (al' _ _).drew
    clear hja x9 y9 a9 s9 HW8 HX HS
    go_upto_region 12 with fail
    generalize w9.heap.size = bz at *
    refine wp_region_any (by kernel_rfl) ?_
    change wpAny _ _ _ _ _ _ _ (World.drew _)
    refine Inv.inv_any (fun (i : Nat) (v : Value) (w : World) => match i with | 0 => v = .int .i64 0 | 1 => v = .bool true | 2 => v = .bool true | 3 => v = .slice (some ⟨b, 0, none⟩) 256 256 | 4 => v = .string (tx (sbytes ⟨ep, root, free, pages⟩)) | 5 => v = .agg #[.int .i64 ep, .int .i64 root, .int .i64 free, .int .i64 pages] | 6 => v = .string (tx (sbytes ⟨ep, root, free, pages⟩)) | 7 => v = .bool true | 8 => v = .bool true | 9 => v = .bool true | 10 => v = .int .i64 (ep % 2) | 11 => v = .pointer (some ⟨bx, 0, none⟩) | 12 => v = .int .i64 ep | 13 => v = .int .i64 (ep % 2) | 14 => v = .bool true | 15 => v = .bool true | 16 => v = .bool true | 17 => v = .agg #[.int .i64 ep, .int .i64 root, .int .i64 free, .int .i64 pages] | 18 => v = .agg #[.int .i64 ep, .int .i64 root, .int .i64 free, .int .i64 pages] | 19 => v = .bool true | 20 => v = .bool true | 21 => v = .bool true | 22 => v = .int .i64 0 | 23 => v = .bool true | 24 => v = .bool true | 25 => v = .bool true | 26 => v = .int .i64 70 | 27 => v = .bool true | 28 => v = .bool true | _ => True) (fun w' : World => JP W bx y b t ⟨ep, root, free, pages⟩ w') _ 29 90 rfl rfl rfl (by kernel_rfl) (by kernel_rfl) hJ0 ?_ ?_ ?_ ?_
    · intro j v w w' h hb
      match j, h with
      | 0, h => exact h
      | 1, h => exact h
      | 2, h => exact h
      | 3, h => exact h
      | 4, h => exact h
      | 5, h => exact h
      | 6, h => exact h
      | 7, h => exact h
      | 8, h => exact h
      | 9, h => exact h
      | 10, h => exact h
      | 11, h => exact h
      | 12, h => exact h
      | 13, h => exact h
      | 14, h => exact h
      | 15, h => exact h
      | 16, h => exact h
      | 17, h => exact h
      | 18, h => exact h
      | 19, h => exact h
      | 20, h => exact h
      | 21, h => exact h
      | 22, h => exact h
      | 23, h => exact h
      | 24, h => exact h
      | 25, h => exact h
      | 26, h => exact h
      | 27, h => exact h
      | 28, h => exact h
      | 29, _ => exact trivial
      | (_ + 30), _ => exact trivial
    · skip
      refine Inv.from_cons _ _ _ _ rfl (fun _ a w hJ hF F K hK => ?_) ?_
      · have hz : a.tmps.size = 90 := hF.size
        have e6 : a.tmps[6]? = some (.int .i64 0) := Inv2.some_slot (by rw [hz]; exact Nat.le_of_ble_eq_true rfl) (hF.slot 6 (by kernel_rfl))
        clear F hF hz
        have hJ1 := hJ
        obtain ⟨jx, jy, ja, jb⟩ := hJ1
        go_simp
        exact hK (.int .i64 0) _ hJ (Below.refl _ _) rfl
      refine Inv.from_cons _ _ _ _ rfl (fun _ a w hJ hF F K hK => ?_) ?_
      · have hz : a.tmps.size = 90 := hF.size
        have e61 : a.tmps[61]? = some (.int .i64 0) := Inv2.some_slot (by rw [hz]; exact Nat.le_of_ble_eq_true rfl) (F 0 (by kernel_rfl) 61 rfl)
        clear F hF hz
        have hJ1 := hJ
        obtain ⟨jx, jy, ja, jb⟩ := hJ1
        go_simp
        exact hK (.bool true) _ hJ (Below.refl _ _) rfl
      refine Inv.from_cons _ _ _ _ rfl (fun _ a w hJ hF F K hK => ?_) ?_
      · have hz : a.tmps.size = 90 := hF.size
        have e62 : a.tmps[62]? = some (.bool true) := Inv2.some_slot (by rw [hz]; exact Nat.le_of_ble_eq_true rfl) (F 1 (by kernel_rfl) 62 rfl)
        clear F hF hz
        have hJ1 := hJ
        obtain ⟨jx, jy, ja, jb⟩ := hJ1
        go_simp
        exact hK (.bool true) _ hJ (Below.refl _ _) rfl
      refine Inv.from_cons _ _ _ _ rfl (fun _ a w hJ hF F K hK => ?_) ?_
      · have hz : a.tmps.size = 90 := hF.size
        have e4 : a.tmps[4]? = some (.slice (some ⟨b, 0, none⟩) 256 256) := Inv2.some_slot (by rw [hz]; exact Nat.le_of_ble_eq_true rfl) (hF.slot 4 (by kernel_rfl))
        have e63 : a.tmps[63]? = some (.bool true) := Inv2.some_slot (by rw [hz]; exact Nat.le_of_ble_eq_true rfl) (F 2 (by kernel_rfl) 63 rfl)
        clear F hF hz
        have hJ1 := hJ
        obtain ⟨jx, jy, ja, jb⟩ := hJ1
        go_simp
        exact hK (.slice (some ⟨b, 0, none⟩) 256 256) _ hJ (Below.refl _ _) rfl
      refine Inv.from_cons _ _ _ _ rfl (fun _ a w hJ hF F K hK => ?_) ?_
      · have hz : a.tmps.size = 90 := hF.size
        have e63 : a.tmps[63]? = some (.bool true) := Inv2.some_slot (by rw [hz]; exact Nat.le_of_ble_eq_true rfl) (F 2 (by kernel_rfl) 63 rfl)
        have e64 : a.tmps[64]? = some (.slice (some ⟨b, 0, none⟩) 256 256) := Inv2.some_slot (by rw [hz]; exact Nat.le_of_ble_eq_true rfl) (F 3 (by kernel_rfl) 64 rfl)
        clear F hF hz
        have hJ1 := hJ
        obtain ⟨jx, jy, ja, jb⟩ := hJ1
        have hcv : (convert 27 9 (.slice (some ⟨b, 0, none⟩) 256 256)).run Try.prog w = .ok (.string (tx (sbytes ⟨ep, root, free, pages⟩))) w := by
          have := conv_bytes (P := Try.prog) Try.underlying27 Try.underlying5 Try.underlying9 256 (Arr.row ja)
          rw [sbytes_len] at this
          exact this
        go_simp
        exact hK (.string (tx (sbytes ⟨ep, root, free, pages⟩))) _ hJ (Below.refl _ _) rfl
      refine Inv.from_cons _ _ _ _ rfl (fun _ a w hJ hF F K hK => ?_) ?_
      · have hz : a.tmps.size = 90 := hF.size
        have e1 : a.tmps[1]? = some (.pointer (some ⟨bx, 0, none⟩)) := Inv2.some_slot (by rw [hz]; exact Nat.le_of_ble_eq_true rfl) (hF.slot 1 (by kernel_rfl))
        have e63 : a.tmps[63]? = some (.bool true) := Inv2.some_slot (by rw [hz]; exact Nat.le_of_ble_eq_true rfl) (F 2 (by kernel_rfl) 63 rfl)
        clear F hF hz
        have hJ1 := hJ
        obtain ⟨jx, jy, ja, jb⟩ := hJ1
        obtain ⟨c0, c1, c2, c3⟩ := jx.cells
        go_simp
        exact hK (.agg #[.int .i64 ep, .int .i64 root, .int .i64 free, .int .i64 pages]) _ hJ (Below.refl _ _) rfl
      refine Inv.from_cons _ _ _ _ rfl (fun _ a w hJ hF F K hK => ?_) ?_
      · have hz : a.tmps.size = 90 := hF.size
        have e63 : a.tmps[63]? = some (.bool true) := Inv2.some_slot (by rw [hz]; exact Nat.le_of_ble_eq_true rfl) (F 2 (by kernel_rfl) 63 rfl)
        have e66 : a.tmps[66]? = some (.agg #[.int .i64 ep, .int .i64 root, .int .i64 free, .int .i64 pages]) := Inv2.some_slot (by rw [hz]; exact Nat.le_of_ble_eq_true rfl) (F 5 (by kernel_rfl) 66 rfl)
        clear F hF hz
        have hJ1 := hJ
        obtain ⟨jx, jy, ja, jb⟩ := hJ1
        have hh := rput_any w ⟨ep, root, free, pages⟩ HOK.out
        go_simp
        (with_reducible refine hh.mono ?_)
        rintro e' w' ⟨rfl, hb⟩
        go_simp
        exact hK _ _ (hJ.below hb) hb rfl
      refine Inv.from_cons _ _ _ _ rfl (fun _ a w hJ hF F K hK => ?_) ?_
      · have hz : a.tmps.size = 90 := hF.size
        have e63 : a.tmps[63]? = some (.bool true) := Inv2.some_slot (by rw [hz]; exact Nat.le_of_ble_eq_true rfl) (F 2 (by kernel_rfl) 63 rfl)
        have e65 : a.tmps[65]? = some (.string (tx (sbytes ⟨ep, root, free, pages⟩))) := Inv2.some_slot (by rw [hz]; exact Nat.le_of_ble_eq_true rfl) (F 4 (by kernel_rfl) 65 rfl)
        have e67 : a.tmps[67]? = some (.string (tx (sbytes ⟨ep, root, free, pages⟩))) := Inv2.some_slot (by rw [hz]; exact Nat.le_of_ble_eq_true rfl) (F 6 (by kernel_rfl) 67 rfl)
        clear F hF hz
        have hJ1 := hJ
        obtain ⟨jx, jy, ja, jb⟩ := hJ1
        go_simp
        exact hK (.bool true) _ hJ (Below.refl _ _) rfl
      refine Inv.from_cons _ _ _ _ rfl (fun _ a w hJ hF F K hK => ?_) ?_
      · have hz : a.tmps.size = 90 := hF.size
        have e63 : a.tmps[63]? = some (.bool true) := Inv2.some_slot (by rw [hz]; exact Nat.le_of_ble_eq_true rfl) (F 2 (by kernel_rfl) 63 rfl)
        have e68 : a.tmps[68]? = some (.bool true) := Inv2.some_slot (by rw [hz]; exact Nat.le_of_ble_eq_true rfl) (F 7 (by kernel_rfl) 68 rfl)
        clear F hF hz
        have hJ1 := hJ
        obtain ⟨jx, jy, ja, jb⟩ := hJ1
        go_simp
        exact hK (.bool true) _ hJ (Below.refl _ _) rfl
      refine Inv.from_cons _ _ _ _ rfl (fun _ a w hJ hF F K hK => ?_) ?_
      · have hz : a.tmps.size = 90 := hF.size
        have e67 : a.tmps[67]? = some (.string (tx (sbytes ⟨ep, root, free, pages⟩))) := Inv2.some_slot (by rw [hz]; exact Nat.le_of_ble_eq_true rfl) (F 6 (by kernel_rfl) 67 rfl)
        have e69 : a.tmps[69]? = some (.bool true) := Inv2.some_slot (by rw [hz]; exact Nat.le_of_ble_eq_true rfl) (F 8 (by kernel_rfl) 69 rfl)
        clear F hF hz
        have hJ1 := hJ
        obtain ⟨jx, jy, ja, jb⟩ := hJ1
        go_simp
        exact hK (.bool true) _ hJ (Below.refl _ _) rfl
      refine Inv.from_cons _ _ _ _ rfl (fun _ a w hJ hF F K hK => ?_) ?_
      · have hz : a.tmps.size = 90 := hF.size
        have e5 : a.tmps[5]? = some (.int .i64 (ep % 2)) := Inv2.some_slot (by rw [hz]; exact Nat.le_of_ble_eq_true rfl) (hF.slot 5 (by kernel_rfl))
        have e70 : a.tmps[70]? = some (.bool true) := Inv2.some_slot (by rw [hz]; exact Nat.le_of_ble_eq_true rfl) (F 9 (by kernel_rfl) 70 rfl)
        clear F hF hz
        have hJ1 := hJ
        obtain ⟨jx, jy, ja, jb⟩ := hJ1
        go_simp
        exact hK (.int .i64 (ep % 2)) _ hJ (Below.refl _ _) rfl
      refine Inv.from_cons _ _ _ _ rfl (fun _ a w hJ hF F K hK => ?_) ?_
      · have hz : a.tmps.size = 90 := hF.size
        have e1 : a.tmps[1]? = some (.pointer (some ⟨bx, 0, none⟩)) := Inv2.some_slot (by rw [hz]; exact Nat.le_of_ble_eq_true rfl) (hF.slot 1 (by kernel_rfl))
        have e70 : a.tmps[70]? = some (.bool true) := Inv2.some_slot (by rw [hz]; exact Nat.le_of_ble_eq_true rfl) (F 9 (by kernel_rfl) 70 rfl)
        clear F hF hz
        have hJ1 := hJ
        obtain ⟨jx, jy, ja, jb⟩ := hJ1
        go_simp
        exact hK (.pointer (some ⟨bx, 0, none⟩)) _ hJ (Below.refl _ _) rfl
      refine Inv.from_cons _ _ _ _ rfl (fun _ a w hJ hF F K hK => ?_) ?_
      · have hz : a.tmps.size = 90 := hF.size
        have e70 : a.tmps[70]? = some (.bool true) := Inv2.some_slot (by rw [hz]; exact Nat.le_of_ble_eq_true rfl) (F 9 (by kernel_rfl) 70 rfl)
        have e72 : a.tmps[72]? = some (.pointer (some ⟨bx, 0, none⟩)) := Inv2.some_slot (by rw [hz]; exact Nat.le_of_ble_eq_true rfl) (F 11 (by kernel_rfl) 72 rfl)
        clear F hF hz
        have hJ1 := hJ
        obtain ⟨jx, jy, ja, jb⟩ := hJ1
        obtain ⟨c0, c1, c2, c3⟩ := jx.cells
        go_simp
        exact hK (.int .i64 ep) _ hJ (Below.refl _ _) rfl
      refine Inv.from_cons _ _ _ _ rfl (fun _ a w hJ hF F K hK => ?_) ?_
      · have hz : a.tmps.size = 90 := hF.size
        have e70 : a.tmps[70]? = some (.bool true) := Inv2.some_slot (by rw [hz]; exact Nat.le_of_ble_eq_true rfl) (F 9 (by kernel_rfl) 70 rfl)
        have e73 : a.tmps[73]? = some (.int .i64 ep) := Inv2.some_slot (by rw [hz]; exact Nat.le_of_ble_eq_true rfl) (F 12 (by kernel_rfl) 73 rfl)
        clear F hF hz
        have hJ1 := hJ
        obtain ⟨jx, jy, ja, jb⟩ := hJ1
        have em : ep.tmod 2 = ep % 2 := Int.tmod_eq_emod_of_nonneg HOK.out.1
        go_simp
        exact hK (.int .i64 (ep % 2)) _ hJ (Below.refl _ _) rfl
      refine Inv.from_cons _ _ _ _ rfl (fun _ a w hJ hF F K hK => ?_) ?_
      · have hz : a.tmps.size = 90 := hF.size
        have e70 : a.tmps[70]? = some (.bool true) := Inv2.some_slot (by rw [hz]; exact Nat.le_of_ble_eq_true rfl) (F 9 (by kernel_rfl) 70 rfl)
        have e71 : a.tmps[71]? = some (.int .i64 (ep % 2)) := Inv2.some_slot (by rw [hz]; exact Nat.le_of_ble_eq_true rfl) (F 10 (by kernel_rfl) 71 rfl)
        have e74 : a.tmps[74]? = some (.int .i64 (ep % 2)) := Inv2.some_slot (by rw [hz]; exact Nat.le_of_ble_eq_true rfl) (F 13 (by kernel_rfl) 74 rfl)
        clear F hF hz
        have hJ1 := hJ
        obtain ⟨jx, jy, ja, jb⟩ := hJ1
        go_simp
        exact hK (.bool true) _ hJ (Below.refl _ _) rfl
      refine Inv.from_cons _ _ _ _ rfl (fun _ a w hJ hF F K hK => ?_) ?_
      · have hz : a.tmps.size = 90 := hF.size
        have e70 : a.tmps[70]? = some (.bool true) := Inv2.some_slot (by rw [hz]; exact Nat.le_of_ble_eq_true rfl) (F 9 (by kernel_rfl) 70 rfl)
        have e75 : a.tmps[75]? = some (.bool true) := Inv2.some_slot (by rw [hz]; exact Nat.le_of_ble_eq_true rfl) (F 14 (by kernel_rfl) 75 rfl)
        clear F hF hz
        have hJ1 := hJ
        obtain ⟨jx, jy, ja, jb⟩ := hJ1
        go_simp
        exact hK (.bool true) _ hJ (Below.refl _ _) rfl
      refine Inv.from_cons _ _ _ _ rfl (fun _ a w hJ hF F K hK => ?_) ?_
      · have hz : a.tmps.size = 90 := hF.size
        have e70 : a.tmps[70]? = some (.bool true) := Inv2.some_slot (by rw [hz]; exact Nat.le_of_ble_eq_true rfl) (F 9 (by kernel_rfl) 70 rfl)
        have e76 : a.tmps[76]? = some (.bool true) := Inv2.some_slot (by rw [hz]; exact Nat.le_of_ble_eq_true rfl) (F 15 (by kernel_rfl) 76 rfl)
        clear F hF hz
        have hJ1 := hJ
        obtain ⟨jx, jy, ja, jb⟩ := hJ1
        go_simp
        exact hK (.bool true) _ hJ (Below.refl _ _) rfl
      refine Inv.from_cons _ _ _ _ rfl (fun _ a w hJ hF F K hK => ?_) ?_
      · have hz : a.tmps.size = 90 := hF.size
        have e8 : a.tmps[8]? = some (.pointer (some ⟨y, 0, none⟩)) := Inv2.some_slot (by rw [hz]; exact Nat.le_of_ble_eq_true rfl) (hF.slot 8 (by kernel_rfl))
        have e77 : a.tmps[77]? = some (.bool true) := Inv2.some_slot (by rw [hz]; exact Nat.le_of_ble_eq_true rfl) (F 16 (by kernel_rfl) 77 rfl)
        clear F hF hz
        have hJ1 := hJ
        obtain ⟨jx, jy, ja, jb⟩ := hJ1
        obtain ⟨c0, c1, c2, c3⟩ := jy.cells
        go_simp
        exact hK (.agg #[.int .i64 ep, .int .i64 root, .int .i64 free, .int .i64 pages]) _ hJ (Below.refl _ _) rfl
      refine Inv.from_cons _ _ _ _ rfl (fun _ a w hJ hF F K hK => ?_) ?_
      · have hz : a.tmps.size = 90 := hF.size
        have e1 : a.tmps[1]? = some (.pointer (some ⟨bx, 0, none⟩)) := Inv2.some_slot (by rw [hz]; exact Nat.le_of_ble_eq_true rfl) (hF.slot 1 (by kernel_rfl))
        have e77 : a.tmps[77]? = some (.bool true) := Inv2.some_slot (by rw [hz]; exact Nat.le_of_ble_eq_true rfl) (F 16 (by kernel_rfl) 77 rfl)
        clear F hF hz
        have hJ1 := hJ
        obtain ⟨jx, jy, ja, jb⟩ := hJ1
        obtain ⟨c0, c1, c2, c3⟩ := jx.cells
        go_simp
        exact hK (.agg #[.int .i64 ep, .int .i64 root, .int .i64 free, .int .i64 pages]) _ hJ (Below.refl _ _) rfl
      refine Inv.from_cons _ _ _ _ rfl (fun _ a w hJ hF F K hK => ?_) ?_
      · have hz : a.tmps.size = 90 := hF.size
        have e77 : a.tmps[77]? = some (.bool true) := Inv2.some_slot (by rw [hz]; exact Nat.le_of_ble_eq_true rfl) (F 16 (by kernel_rfl) 77 rfl)
        have e78 : a.tmps[78]? = some (.agg #[.int .i64 ep, .int .i64 root, .int .i64 free, .int .i64 pages]) := Inv2.some_slot (by rw [hz]; exact Nat.le_of_ble_eq_true rfl) (F 17 (by kernel_rfl) 78 rfl)
        have e79 : a.tmps[79]? = some (.agg #[.int .i64 ep, .int .i64 root, .int .i64 free, .int .i64 pages]) := Inv2.some_slot (by rw [hz]; exact Nat.le_of_ble_eq_true rfl) (F 18 (by kernel_rfl) 79 rfl)
        clear F hF hz
        have hJ1 := hJ
        obtain ⟨jx, jy, ja, jb⟩ := hJ1
        go_simp
        exact hK (.bool true) _ hJ (Below.refl _ _) rfl
      refine Inv.from_cons _ _ _ _ rfl (fun _ a w hJ hF F K hK => ?_) ?_
      · have hz : a.tmps.size = 90 := hF.size
        have e77 : a.tmps[77]? = some (.bool true) := Inv2.some_slot (by rw [hz]; exact Nat.le_of_ble_eq_true rfl) (F 16 (by kernel_rfl) 77 rfl)
        have e80 : a.tmps[80]? = some (.bool true) := Inv2.some_slot (by rw [hz]; exact Nat.le_of_ble_eq_true rfl) (F 19 (by kernel_rfl) 80 rfl)
        clear F hF hz
        have hJ1 := hJ
        obtain ⟨jx, jy, ja, jb⟩ := hJ1
        go_simp
        exact hK (.bool true) _ hJ (Below.refl _ _) rfl
      refine Inv.from_cons _ _ _ _ rfl (fun _ a w hJ hF F K hK => ?_) ?_
      · have hz : a.tmps.size = 90 := hF.size
        have e77 : a.tmps[77]? = some (.bool true) := Inv2.some_slot (by rw [hz]; exact Nat.le_of_ble_eq_true rfl) (F 16 (by kernel_rfl) 77 rfl)
        have e81 : a.tmps[81]? = some (.bool true) := Inv2.some_slot (by rw [hz]; exact Nat.le_of_ble_eq_true rfl) (F 20 (by kernel_rfl) 81 rfl)
        clear F hF hz
        have hJ1 := hJ
        obtain ⟨jx, jy, ja, jb⟩ := hJ1
        go_simp
        exact hK (.bool true) _ hJ (Below.refl _ _) rfl
      refine Inv.from_cons _ _ _ _ rfl (fun _ a w hJ hF F K hK => ?_) ?_
      · have hz : a.tmps.size = 90 := hF.size
        have e9 : a.tmps[9]? = some (.int .i64 0) := Inv2.some_slot (by rw [hz]; exact Nat.le_of_ble_eq_true rfl) (hF.slot 9 (by kernel_rfl))
        have e82 : a.tmps[82]? = some (.bool true) := Inv2.some_slot (by rw [hz]; exact Nat.le_of_ble_eq_true rfl) (F 21 (by kernel_rfl) 82 rfl)
        clear F hF hz
        have hJ1 := hJ
        obtain ⟨jx, jy, ja, jb⟩ := hJ1
        go_simp
        exact hK (.int .i64 0) _ hJ (Below.refl _ _) rfl
      refine Inv.from_cons _ _ _ _ rfl (fun _ a w hJ hF F K hK => ?_) ?_
      · have hz : a.tmps.size = 90 := hF.size
        have e82 : a.tmps[82]? = some (.bool true) := Inv2.some_slot (by rw [hz]; exact Nat.le_of_ble_eq_true rfl) (F 21 (by kernel_rfl) 82 rfl)
        have e83 : a.tmps[83]? = some (.int .i64 0) := Inv2.some_slot (by rw [hz]; exact Nat.le_of_ble_eq_true rfl) (F 22 (by kernel_rfl) 83 rfl)
        clear F hF hz
        have hJ1 := hJ
        obtain ⟨jx, jy, ja, jb⟩ := hJ1
        go_simp
        exact hK (.bool true) _ hJ (Below.refl _ _) rfl
      refine Inv.from_cons _ _ _ _ rfl (fun _ a w hJ hF F K hK => ?_) ?_
      · have hz : a.tmps.size = 90 := hF.size
        have e82 : a.tmps[82]? = some (.bool true) := Inv2.some_slot (by rw [hz]; exact Nat.le_of_ble_eq_true rfl) (F 21 (by kernel_rfl) 82 rfl)
        have e84 : a.tmps[84]? = some (.bool true) := Inv2.some_slot (by rw [hz]; exact Nat.le_of_ble_eq_true rfl) (F 23 (by kernel_rfl) 84 rfl)
        clear F hF hz
        have hJ1 := hJ
        obtain ⟨jx, jy, ja, jb⟩ := hJ1
        go_simp
        exact hK (.bool true) _ hJ (Below.refl _ _) rfl
      refine Inv.from_cons _ _ _ _ rfl (fun _ a w hJ hF F K hK => ?_) ?_
      · have hz : a.tmps.size = 90 := hF.size
        have e82 : a.tmps[82]? = some (.bool true) := Inv2.some_slot (by rw [hz]; exact Nat.le_of_ble_eq_true rfl) (F 21 (by kernel_rfl) 82 rfl)
        have e85 : a.tmps[85]? = some (.bool true) := Inv2.some_slot (by rw [hz]; exact Nat.le_of_ble_eq_true rfl) (F 24 (by kernel_rfl) 85 rfl)
        clear F hF hz
        have hJ1 := hJ
        obtain ⟨jx, jy, ja, jb⟩ := hJ1
        go_simp
        exact hK (.bool true) _ hJ (Below.refl _ _) rfl
      refine Inv.from_cons _ _ _ _ rfl (fun _ a w hJ hF F K hK => ?_) ?_
      · have hz : a.tmps.size = 90 := hF.size
        have e11 : a.tmps[11]? = some (.int .i64 70) := Inv2.some_slot (by rw [hz]; exact Nat.le_of_ble_eq_true rfl) (hF.slot 11 (by kernel_rfl))
        have e86 : a.tmps[86]? = some (.bool true) := Inv2.some_slot (by rw [hz]; exact Nat.le_of_ble_eq_true rfl) (F 25 (by kernel_rfl) 86 rfl)
        clear F hF hz
        have hJ1 := hJ
        obtain ⟨jx, jy, ja, jb⟩ := hJ1
        go_simp
        exact hK (.int .i64 70) _ hJ (Below.refl _ _) rfl
      refine Inv.from_cons _ _ _ _ rfl (fun _ a w hJ hF F K hK => ?_) ?_
      · have hz : a.tmps.size = 90 := hF.size
        have e86 : a.tmps[86]? = some (.bool true) := Inv2.some_slot (by rw [hz]; exact Nat.le_of_ble_eq_true rfl) (F 25 (by kernel_rfl) 86 rfl)
        have e87 : a.tmps[87]? = some (.int .i64 70) := Inv2.some_slot (by rw [hz]; exact Nat.le_of_ble_eq_true rfl) (F 26 (by kernel_rfl) 87 rfl)
        clear F hF hz
        have hJ1 := hJ
        obtain ⟨jx, jy, ja, jb⟩ := hJ1
        go_simp
        exact hK (.bool true) _ hJ (Below.refl _ _) rfl
      refine Inv.from_cons _ _ _ _ rfl (fun _ a w hJ hF F K hK => ?_) ?_
      · have hz : a.tmps.size = 90 := hF.size
        have e86 : a.tmps[86]? = some (.bool true) := Inv2.some_slot (by rw [hz]; exact Nat.le_of_ble_eq_true rfl) (F 25 (by kernel_rfl) 86 rfl)
        have e88 : a.tmps[88]? = some (.bool true) := Inv2.some_slot (by rw [hz]; exact Nat.le_of_ble_eq_true rfl) (F 27 (by kernel_rfl) 88 rfl)
        clear F hF hz
        have hJ1 := hJ
        obtain ⟨jx, jy, ja, jb⟩ := hJ1
        go_simp
        exact hK (.bool true) _ hJ (Below.refl _ _) rfl
      refine Inv.from_skip _ _ _ _ rfl ?_
      exact Inv.from_end _ _ _ _ (by decide +kernel)
    · intro o ho a w hJ hF F K hK
      injection (show some _ = some o from ho) with ho
      subst ho
      obtain ⟨f, hf⟩ : ∃ f : Nat → Value, ∀ i, a.tmps.getD i undef = f i := ⟨_, fun _ => rfl⟩
      have g1 : f 1 = (.pointer (some ⟨bx, 0, none⟩)) := (hf 1).symm.trans (hF.slot 1 (by kernel_rfl))
      have g4 : f 4 = (.slice (some ⟨b, 0, none⟩) 256 256) := (hf 4).symm.trans (hF.slot 4 (by kernel_rfl))
      have g5 : f 5 = (.int .i64 (ep % 2)) := (hf 5).symm.trans (hF.slot 5 (by kernel_rfl))
      have g6 : f 6 = (.int .i64 0) := (hf 6).symm.trans (hF.slot 6 (by kernel_rfl))
      have g8 : f 8 = (.pointer (some ⟨y, 0, none⟩)) := (hf 8).symm.trans (hF.slot 8 (by kernel_rfl))
      have g9 : f 9 = (.int .i64 0) := (hf 9).symm.trans (hF.slot 9 (by kernel_rfl))
      have g11 : f 11 = (.int .i64 70) := (hf 11).symm.trans (hF.slot 11 (by kernel_rfl))
      have g61 : f 61 = (.int .i64 0) := (hf 61).symm.trans (F 0 (by decide) 61 rfl)
      have g62 : f 62 = (.bool true) := (hf 62).symm.trans (F 1 (by decide) 62 rfl)
      have g63 : f 63 = (.bool true) := (hf 63).symm.trans (F 2 (by decide) 63 rfl)
      have g64 : f 64 = (.slice (some ⟨b, 0, none⟩) 256 256) := (hf 64).symm.trans (F 3 (by decide) 64 rfl)
      have g65 : f 65 = (.string (tx (sbytes ⟨ep, root, free, pages⟩))) := (hf 65).symm.trans (F 4 (by decide) 65 rfl)
      have g66 : f 66 = (.agg #[.int .i64 ep, .int .i64 root, .int .i64 free, .int .i64 pages]) := (hf 66).symm.trans (F 5 (by decide) 66 rfl)
      have g67 : f 67 = (.string (tx (sbytes ⟨ep, root, free, pages⟩))) := (hf 67).symm.trans (F 6 (by decide) 67 rfl)
      have g68 : f 68 = (.bool true) := (hf 68).symm.trans (F 7 (by decide) 68 rfl)
      have g69 : f 69 = (.bool true) := (hf 69).symm.trans (F 8 (by decide) 69 rfl)
      have g70 : f 70 = (.bool true) := (hf 70).symm.trans (F 9 (by decide) 70 rfl)
      have g71 : f 71 = (.int .i64 (ep % 2)) := (hf 71).symm.trans (F 10 (by decide) 71 rfl)
      have g72 : f 72 = (.pointer (some ⟨bx, 0, none⟩)) := (hf 72).symm.trans (F 11 (by decide) 72 rfl)
      have g73 : f 73 = (.int .i64 ep) := (hf 73).symm.trans (F 12 (by decide) 73 rfl)
      have g74 : f 74 = (.int .i64 (ep % 2)) := (hf 74).symm.trans (F 13 (by decide) 74 rfl)
      have g75 : f 75 = (.bool true) := (hf 75).symm.trans (F 14 (by decide) 75 rfl)
      have g76 : f 76 = (.bool true) := (hf 76).symm.trans (F 15 (by decide) 76 rfl)
      have g77 : f 77 = (.bool true) := (hf 77).symm.trans (F 16 (by decide) 77 rfl)
      have g78 : f 78 = (.agg #[.int .i64 ep, .int .i64 root, .int .i64 free, .int .i64 pages]) := (hf 78).symm.trans (F 17 (by decide) 78 rfl)
      have g79 : f 79 = (.agg #[.int .i64 ep, .int .i64 root, .int .i64 free, .int .i64 pages]) := (hf 79).symm.trans (F 18 (by decide) 79 rfl)
      have g80 : f 80 = (.bool true) := (hf 80).symm.trans (F 19 (by decide) 80 rfl)
      have g81 : f 81 = (.bool true) := (hf 81).symm.trans (F 20 (by decide) 81 rfl)
      have g82 : f 82 = (.bool true) := (hf 82).symm.trans (F 21 (by decide) 82 rfl)
      have g83 : f 83 = (.int .i64 0) := (hf 83).symm.trans (F 22 (by decide) 83 rfl)
      have g84 : f 84 = (.bool true) := (hf 84).symm.trans (F 23 (by decide) 84 rfl)
      have g85 : f 85 = (.bool true) := (hf 85).symm.trans (F 24 (by decide) 85 rfl)
      have g86 : f 86 = (.bool true) := (hf 86).symm.trans (F 25 (by decide) 86 rfl)
      have g87 : f 87 = (.int .i64 70) := (hf 87).symm.trans (F 26 (by decide) 87 rfl)
      have g88 : f 88 = (.bool true) := (hf 88).symm.trans (F 27 (by decide) 88 rfl)
      have g89 : f 89 = (.bool true) := (hf 89).symm.trans (F 28 (by decide) 89 rfl)
      have ha := Frames.frame (show a.tmps.size = 90 from hF.size) hF.defers hf (l := [f 0, f 1, f 2, f 3, f 4, f 5, f 6, f 7, f 8, f 9, f 10, f 11, f 12, f 13, f 14, f 15, f 16, f 17, f 18, f 19, f 20, f 21, f 22, f 23, f 24, f 25, f 26, f 27, f 28, f 29, f 30, f 31, f 32, f 33, f 34, f 35, f 36, f 37, f 38, f 39, f 40, f 41, f 42, f 43, f 44, f 45, f 46, f 47, f 48, f 49, f 50, f 51, f 52, f 53, f 54, f 55, f 56, f 57, f 58, f 59, f 60, f 61, f 62, f 63, f 64, f 65, f 66, f 67, f 68, f 69, f 70, f 71, f 72, f 73, f 74, f 75, f 76, f 77, f 78, f 79, f 80, f 81, f 82, f 83, f 84, f 85, f 86, f 87, f 88, f 89]) rfl
      simp only [g1, g4, g5, g6, g8, g9, g11, g61, g62, g63, g64, g65, g66, g67, g68, g69, g70, g71, g72, g73, g74, g75, g76, g77, g78, g79, g80, g81, g82, g83, g84, g85, g86, g87, g88, g89] at ha
      clear F hF hf g1 g4 g5 g6 g8 g9 g11 g61 g62 g63 g64 g65 g66 g67 g68 g69 g70 g71 g72 g73 g74 g75 g76 g77 g78 g79 g80 g81 g82 g83 g84 g85 g86 g87 g88 g89
      subst ha
      have hJ1 := hJ
      obtain ⟨jx, jy, ja, jb⟩ := hJ1
      have HB := Lib.hid jb
      clear hJ jx jy ja jb
      go_simp
      refine hK _ _ ?_
      clear hK
      go_wp2_with fail
      go_ret
      exact ⟨rfl, HB.out⟩
    · intro hq; exact absurd hq (by decide +kernel)
  · rw [decide_eq_false hok] at hr
    have HOK := Lib.hid hok
    clear hok o4 x3 hgl
    go_wp2_with fail
    (with_reducible refine hr.mono ?_)
    clear hr
    rintro e w5 ⟨rfl, b5⟩
    have x5 := x4.below b5
    have s5 := s4.below b5
    clear x4 s4 b5 c0 c1 c2 c3
    have hr := HS.out.check w5 ⟨ep, root, free, pages⟩ HX.out
    rw [decide_eq_false HOK.out] at hr
    obtain ⟨c0, c1, c2, c3⟩ := x5.cells
    go_wp2_with fail
    (with_reducible refine hr.mono ?_)
    clear hr
    rintro e w6 ⟨rfl, b6⟩
    have s6 := s5.below b6
    clear x5 s5 b6 c0 c1 c2 c3
    go_wp2_with fail
    go_ret
    exact ⟨rfl, s6.base⟩
end Go.Proofs.Ytcnblgienombeaa.SuperPuts
