/- The walk of SuperTorn, by what the calls are asked for. -/
import Derived.Test.YtcnblgienombeaaSuperAwake
import Derived.Test.YtcnblgienombeaaInv2
import Derived.Test.YtcnblgienombeaaFrames
import Derived.Test.YtcnblgienombeaaBlk
namespace Go.Proofs.Ytcnblgienombeaa.SuperTorn
open Go.RowKit Base SumPlain SumMem SumFill SumOf PagePlain PageSmall PageBytes PageLay PagePut PageFour PageAwake SuperPlain SuperRefCheck SuperPlumb SuperSpec SuperAwake SuperRefPut
open Blk (cp cv cv_run cv_below cv_blk Blk8)

theorem cp_ge (w : World) (s : ByteArray) : s.size ≤ cp w s := grownCap_ge w s.size 0 _
/-- three boxes -/
structure JT (W : World) (g bx y bz : Nat) (x v z : Sp) (w : World) : Prop where
  jx : Bs w bx x
  jy : Bs w y v
  jz : Bs w bz z
  js : Sg W g 0 w
theorem JT.below {W w w' : World} {g bx y bz : Nat} {x v z : Sp} (h : JT W g bx y bz x v z w) (hb : Below w.heap.size w w') : JT W g bx y bz x v z w' :=
  ⟨h.jx.below hb, h.jy.below hb, h.jz.below hb, h.js.below hb⟩
theorem boxes (W : World) (x v z : Sp) : ∃ w, ((W.alloc (.cells #[.int .i64 x.ep, .int .i64 x.root, .int .i64 x.free, .int .i64 x.pages] 23)).alloc (.cells #[.int .i64 v.ep, .int .i64 v.root, .int .i64 v.free, .int .i64 v.pages] 23)).alloc (.cells #[.int .i64 z.ep, .int .i64 z.root, .int .i64 z.free, .int .i64 z.pages] 23) = w ∧
    Bs w W.heap.size x ∧ Bs w (W.heap.size + 1) v ∧ Bs w (W.heap.size + 1 + 1) z ∧ Below W.heap.size W w := by
  refine ⟨_, rfl, ?_, ?_, ?_, ?_⟩
  · exact ((bs_new W x).below (al' _ _)).below (al' _ _)
  · have := (bs_new (W.alloc (.cells #[.int .i64 x.ep, .int .i64 x.root, .int .i64 x.free, .int .i64 x.pages] 23)) v).below (al' _ (.cells #[.int .i64 z.ep, .int .i64 z.root, .int .i64 z.free, .int .i64 z.pages] 23))
    simpa using this
  · have := bs_new ((W.alloc (.cells #[.int .i64 x.ep, .int .i64 x.root, .int .i64 x.free, .int .i64 x.pages] 23)).alloc (.cells #[.int .i64 v.ep, .int .i64 v.root, .int .i64 v.free, .int .i64 v.pages] 23)) z
    simpa using this
  · exact ((al' W _).alloc (by simp) _).alloc (by simp; omega) _
/-- what a torn slot tells beside a whole one -/
theorem torn_pick {l : List UInt8} {y : Sp} (hy : Ok y) (h1 : y.ep % 2 = 1) : ∃ r f p e, pickS l (sbytes y) = .inr ⟨e, r, f, p⟩ := by
  obtain ⟨⟨e, r, f, p⟩, h⟩ := pick_any (l := l) hy h1
  exact ⟨r, f, p, e, h⟩
set_option maxRecDepth 100000 in
set_option maxHeartbeats 12800000 in
theorem torn_any (S : Specs) (W : World) (x v z : Sp) (s : Int) (_ : 0 ≤ s) (_ : s ≤ 255) : Calls Try.prog 6 #[sv x, sv v, sv z, .int .u8 s] W (Law W) := by
  have HS := Lib.hid S
  clear S
  obtain ⟨xe, xr, xf, xp⟩ := x
  obtain ⟨ye, yr, yf, yp⟩ := v
  obtain ⟨ze, zr, zf, zp⟩ := z
  obtain ⟨w1, hw1, x1, y1, z1, h1⟩ := boxes W ⟨xe, xr, xf, xp⟩ ⟨ye, yr, yf, yp⟩ ⟨ze, zr, zf, zp⟩
  simp only at hw1
  have HW1 := Lib.hid hw1
  clear hw1
  unfold Law
  go_enter Try.func6, Try.ntmps6
  go_upto_region 1 with fail
  rw [HW1.out]
  obtain ⟨bx, hbx⟩ : ∃ n, n = W.heap.size := ⟨_, rfl⟩
  rw [← hbx] at x1 y1 z1 ⊢
  obtain ⟨y, hy⟩ : ∃ n, n = bx + 1 := ⟨_, rfl⟩
  rw [← hy] at y1 z1 ⊢
  obtain ⟨bz, hbz⟩ : ∃ n, n = y + 1 := ⟨_, rfl⟩
  rw [← hbz] at z1 ⊢
  have hcall := new_t h1
  go_wp2_with fail
  (with_reducible refine hcall.mono ?_)
  clear hcall hbx hy hbz HW1
  rintro e w2 ⟨g, rfl, s2, b2, hg⟩
  have hxg : bx ≠ g := by have := x1.lt; omega
  have hyg : y ≠ g := by have := y1.lt; omega
  have hzg : bz ≠ g := by have := z1.lt; omega
  have j2 : JT W g bx y bz ⟨xe, xr, xf, xp⟩ ⟨ye, yr, yf, yp⟩ ⟨ze, zr, zf, zp⟩ w2 := ⟨x1.below b2, y1.below b2, z1.below b2, s2⟩
  clear x1 y1 z1 s2 b2 hg h1
  have hcall := awake_any HS.out w2
  unfold Law at hcall
  go_wp2_with fail
  (with_reducible refine hcall.mono ?_)
  clear hcall
  rintro e w3 ⟨rfl, b3⟩
  have j3 := j2.below b3
  clear j2 b3
  have hcall := rcheck_any w3 ⟨xe, xr, xf, xp⟩
  obtain ⟨c0, c1, c2, c3⟩ := j3.jx.cells
  go_wp2_with fail
  (with_reducible refine hcall.mono ?_)
  clear hcall c0 c1 c2 c3
  rintro e w4 ⟨rfl, b4⟩
  have j4 := j3.below b4
  clear j3 b4
  by_cases hok : Ok ⟨xe, xr, xf, xp⟩
  rotate_left
  · rw [decide_eq_false hok]
    clear hok
    have hcall := awake_any HS.out w4
    unfold Law at hcall
    go_wp2_with fail
    (with_reducible refine hcall.mono ?_)
    clear hcall
    rintro e w' ⟨rfl, b'⟩
    have hz := (j4.below b').js.base
    go_wp2_with fail
    go_ret
    exact ⟨rfl, hz⟩
  rw [decide_eq_true hok]
  have HOX := Lib.hid hok
  clear hok
  have hcall := rcheck_any w4 ⟨ye, yr, yf, yp⟩
  obtain ⟨c0, c1, c2, c3⟩ := j4.jy.cells
  go_wp2_with fail
  (with_reducible refine hcall.mono ?_)
  clear hcall c0 c1 c2 c3
  rintro e w5 ⟨rfl, b5⟩
  have j5 := j4.below b5
  clear j4 b5
  by_cases hok : Ok ⟨ye, yr, yf, yp⟩
  rotate_left
  · rw [decide_eq_false hok]
    clear hok
    have hcall := awake_any HS.out w5
    unfold Law at hcall
    go_wp2_with fail
    (with_reducible refine hcall.mono ?_)
    clear hcall
    rintro e w' ⟨rfl, b'⟩
    have hz := (j5.below b').js.base
    go_wp2_with fail
    go_ret
    exact ⟨rfl, hz⟩
  rw [decide_eq_true hok]
  have HOY := Lib.hid hok
  clear hok
  have hcall := rcheck_any w5 ⟨ze, zr, zf, zp⟩
  obtain ⟨c0, c1, c2, c3⟩ := j5.jz.cells
  go_wp2_with fail
  (with_reducible refine hcall.mono ?_)
  clear hcall c0 c1 c2 c3
  rintro e w6 ⟨rfl, b6⟩
  have j6 := j5.below b6
  clear j5 b6
  by_cases hok : Ok ⟨ze, zr, zf, zp⟩
  rotate_left
  · rw [decide_eq_false hok]
    clear hok
    have hcall := awake_any HS.out w6
    unfold Law at hcall
    go_wp2_with fail
    (with_reducible refine hcall.mono ?_)
    clear hcall
    rintro e w' ⟨rfl, b'⟩
    have hz := (j6.below b').js.base
    go_wp2_with fail
    go_ret
    exact ⟨rfl, hz⟩
  rw [decide_eq_true hok]
  have HOZ := Lib.hid hok
  clear hok
  obtain ⟨c0, c1, c2, c3⟩ := j6.jx.cells
  obtain ⟨d0, d1, d2, d3⟩ := j6.jy.cells
  obtain ⟨z0, z1, z2, z3⟩ := j6.jz.cells
  have emx : xe.tmod 2 = xe % 2 := Int.tmod_eq_emod_of_nonneg HOX.out.1
  have e1 : IntKind.i64.wrap (xe + 1) = xe + 1 := IntWalk.i64_in _ (by have := HOX.out.1; have := HOX.out.2.1; simp only at *; omega)
  have e2 : IntKind.i64.wrap (xe + 2) = xe + 2 := IntWalk.i64_in _ (by have := HOX.out.1; have := HOX.out.2.1; simp only at *; omega)
  by_cases hpx : xe % 2 = 0
  rotate_left
  · rw [show xe % 2 = 1 by omega] at emx
    clear hpx
    have hcall := awake_any HS.out w6
    unfold Law at hcall
    go_wp2_with fail
    (with_reducible refine hcall.mono ?_)
    clear hcall
    rintro e w' ⟨rfl, b'⟩
    have hz := (j6.below b').js.base
    go_wp2_with fail
    go_ret
    exact ⟨rfl, hz⟩
  rw [hpx] at emx
  have HPX := Lib.hid hpx
  clear hpx
  by_cases hb : ye = xe + 1
  rotate_left
  · skip
    have hcall := awake_any HS.out w6
    unfold Law at hcall
    go_wp2_with fail
    (with_reducible refine hcall.mono ?_)
    clear hcall
    rintro e w' ⟨rfl, b'⟩
    have hz := (j6.below b').js.base
    go_wp2_with fail
    go_ret
    exact ⟨rfl, hz⟩
  subst hb
  by_cases hc : ze = xe + 2
  rotate_left
  · skip
    have hcall := awake_any HS.out w6
    unfold Law at hcall
    go_wp2_with fail
    (with_reducible refine hcall.mono ?_)
    clear hcall
    rintro e w' ⟨rfl, b'⟩
    have hz := (j6.below b').js.base
    go_wp2_with fail
    go_ret
    exact ⟨rfl, hz⟩
  subst hc
  by_cases hd : xp = zp
  rotate_left
  · skip
    have hcall := awake_any HS.out w6
    unfold Law at hcall
    go_wp2_with fail
    (with_reducible refine hcall.mono ?_)
    clear hcall
    rintro e w' ⟨rfl, b'⟩
    have hz := (j6.below b').js.base
    go_wp2_with fail
    go_ret
    exact ⟨rfl, hz⟩
  subst hd
  go_upto_region 4 with fail
  clear c0 c1 c2 c3 d0 d1 d2 d3 z0 z1 z2 z3 emx e1 e2
  have hJ0 := j6.below (Below.refl _ _).drew
  clear j6
  refine wp_region_any (by kernel_rfl) ?_
  change wpAny _ _ _ _ _ _ _ (World.drew _)
  refine Inv.inv_any (fun (i : Nat) (v : Value) (w : World) => match i with | 0 => v = .agg #[.int .i64 xe, .int .i64 xr, .int .i64 xf, .int .i64 xp] | 1 => v = .string (tx (sbytes ⟨xe, xr, xf, xp⟩)) | 2 => v = .agg #[.int .i64 (xe + 2), .int .i64 zr, .int .i64 zf, .int .i64 xp] | 3 => v = .string (tx (sbytes ⟨xe + 2, zr, zf, xp⟩)) | 4 => v = .string (tx (sbytes ⟨xe, xr, xf, xp⟩)) | _ => True) (fun w' : World => JT W g bx y bz ⟨xe, xr, xf, xp⟩ ⟨xe + 1, yr, yf, yp⟩ ⟨xe + 2, zr, zf, xp⟩ w') _ 5 126 rfl rfl rfl (by kernel_rfl) (by kernel_rfl) hJ0 ?_ ?_ ?_ ?_
  · intro j v w w' h hb
    match j, h with
    | 0, h => exact h
    | 1, h => exact h
    | 2, h => exact h
    | 3, h => exact h
    | 4, h => exact h
    | 5, _ => exact trivial
    | (_ + 6), _ => exact trivial
  · skip
    refine Inv.from_cons _ _ _ _ rfl (fun _ a w hJ hF F K hK => ?_) ?_
    · have hz : a.tmps.size = 126 := hF.size
      have e4 : a.tmps[4]? = some (.pointer (some ⟨bx, 0, none⟩)) := Inv2.some_slot (by rw [hz]; exact Nat.le_of_ble_eq_true rfl) (hF.slot 4 (by kernel_rfl))
      clear F hF hz
      have hJ1 := hJ
      obtain ⟨jx, jy, jz, js⟩ := hJ1
      obtain ⟨c0, c1, c2, c3⟩ := jx.cells
      go_simp
      exact hK (.agg #[.int .i64 xe, .int .i64 xr, .int .i64 xf, .int .i64 xp]) _ hJ (Below.refl _ _) rfl
    refine Inv.from_cons _ _ _ _ rfl (fun _ a w hJ hF F K hK => ?_) ?_
    · have hz : a.tmps.size = 126 := hF.size
      have e68 : a.tmps[68]? = some (.agg #[.int .i64 xe, .int .i64 xr, .int .i64 xf, .int .i64 xp]) := Inv2.some_slot (by rw [hz]; exact Nat.le_of_ble_eq_true rfl) (F 0 (by kernel_rfl) 68 rfl)
      clear F hF hz
      have hJ1 := hJ
      obtain ⟨jx, jy, jz, js⟩ := hJ1
      have hh := rput_any w ⟨xe, xr, xf, xp⟩ HOX.out
      go_simp
      (with_reducible refine hh.mono ?_)
      rintro e' w' ⟨rfl, hb⟩
      go_simp
      exact hK _ _ (hJ.below hb) hb rfl
    refine Inv.from_cons _ _ _ _ rfl (fun _ a w hJ hF F K hK => ?_) ?_
    · have hz : a.tmps.size = 126 := hF.size
      have e6 : a.tmps[6]? = some (.pointer (some ⟨bz, 0, none⟩)) := Inv2.some_slot (by rw [hz]; exact Nat.le_of_ble_eq_true rfl) (hF.slot 6 (by kernel_rfl))
      clear F hF hz
      have hJ1 := hJ
      obtain ⟨jx, jy, jz, js⟩ := hJ1
      obtain ⟨c0, c1, c2, c3⟩ := jz.cells
      go_simp
      exact hK (.agg #[.int .i64 (xe + 2), .int .i64 zr, .int .i64 zf, .int .i64 xp]) _ hJ (Below.refl _ _) rfl
    refine Inv.from_cons _ _ _ _ rfl (fun _ a w hJ hF F K hK => ?_) ?_
    · have hz : a.tmps.size = 126 := hF.size
      have e69 : a.tmps[69]? = some (.string (tx (sbytes ⟨xe, xr, xf, xp⟩))) := Inv2.some_slot (by rw [hz]; exact Nat.le_of_ble_eq_true rfl) (F 1 (by kernel_rfl) 69 rfl)
      have e70 : a.tmps[70]? = some (.agg #[.int .i64 (xe + 2), .int .i64 zr, .int .i64 zf, .int .i64 xp]) := Inv2.some_slot (by rw [hz]; exact Nat.le_of_ble_eq_true rfl) (F 2 (by kernel_rfl) 70 rfl)
      clear F hF hz
      have hJ1 := hJ
      obtain ⟨jx, jy, jz, js⟩ := hJ1
      have hh := rput_any w ⟨xe + 2, zr, zf, xp⟩ HOZ.out
      go_simp
      (with_reducible refine hh.mono ?_)
      rintro e' w' ⟨rfl, hb⟩
      go_simp
      exact hK _ _ (hJ.below hb) hb rfl
    refine Inv.from_cons _ _ _ _ rfl (fun _ a w hJ hF F K hK => ?_) ?_
    · have hz : a.tmps.size = 126 := hF.size
      have e68 : a.tmps[68]? = some (.agg #[.int .i64 xe, .int .i64 xr, .int .i64 xf, .int .i64 xp]) := Inv2.some_slot (by rw [hz]; exact Nat.le_of_ble_eq_true rfl) (F 0 (by kernel_rfl) 68 rfl)
      have e69 : a.tmps[69]? = some (.string (tx (sbytes ⟨xe, xr, xf, xp⟩))) := Inv2.some_slot (by rw [hz]; exact Nat.le_of_ble_eq_true rfl) (F 1 (by kernel_rfl) 69 rfl)
      have e71 : a.tmps[71]? = some (.string (tx (sbytes ⟨xe + 2, zr, zf, xp⟩))) := Inv2.some_slot (by rw [hz]; exact Nat.le_of_ble_eq_true rfl) (F 3 (by kernel_rfl) 71 rfl)
      clear F hF hz
      have hJ1 := hJ
      obtain ⟨jx, jy, jz, js⟩ := hJ1
      go_simp
      exact hK (.string (tx (sbytes ⟨xe, xr, xf, xp⟩))) _ hJ (Below.refl _ _) rfl
    refine Inv.from_skip _ _ _ _ rfl ?_
    exact Inv.from_end _ _ _ _ (by decide +kernel)
  · intro o ho a w hJ hF F K hK
    injection (show some _ = some o from ho) with ho
    subst ho
    obtain ⟨f, hf⟩ : ∃ f : Nat → Value, ∀ i, a.tmps.getD i undef = f i := ⟨_, fun _ => rfl⟩
    have g3 : f 3 = (.int .u8 s) := (hf 3).symm.trans (hF.slot 3 (by kernel_rfl))
    have g4 : f 4 = (.pointer (some ⟨bx, 0, none⟩)) := (hf 4).symm.trans (hF.slot 4 (by kernel_rfl))
    have g5 : f 5 = (.pointer (some ⟨y, 0, none⟩)) := (hf 5).symm.trans (hF.slot 5 (by kernel_rfl))
    have g6 : f 6 = (.pointer (some ⟨bz, 0, none⟩)) := (hf 6).symm.trans (hF.slot 6 (by kernel_rfl))
    have g9 : f 9 = (.pointer (some ⟨g, 0, none⟩)) := (hf 9).symm.trans (hF.slot 9 (by kernel_rfl))
    have g68 : f 68 = (.agg #[.int .i64 xe, .int .i64 xr, .int .i64 xf, .int .i64 xp]) := (hf 68).symm.trans (F 0 (by decide) 68 rfl)
    have g69 : f 69 = (.string (tx (sbytes ⟨xe, xr, xf, xp⟩))) := (hf 69).symm.trans (F 1 (by decide) 69 rfl)
    have g70 : f 70 = (.agg #[.int .i64 (xe + 2), .int .i64 zr, .int .i64 zf, .int .i64 xp]) := (hf 70).symm.trans (F 2 (by decide) 70 rfl)
    have g71 : f 71 = (.string (tx (sbytes ⟨xe + 2, zr, zf, xp⟩))) := (hf 71).symm.trans (F 3 (by decide) 71 rfl)
    have g10 : f 10 = (.string (tx (sbytes ⟨xe, xr, xf, xp⟩))) := (hf 10).symm.trans (F 4 (by decide) 10 rfl)
    have ha := Frames.frame (show a.tmps.size = 126 from hF.size) hF.defers hf (l := [f 0, f 1, f 2, f 3, f 4, f 5, f 6, f 7, f 8, f 9, f 10, f 11, f 12, f 13, f 14, f 15, f 16, f 17, f 18, f 19, f 20, f 21, f 22, f 23, f 24, f 25, f 26, f 27, f 28, f 29, f 30, f 31, f 32, f 33, f 34, f 35, f 36, f 37, f 38, f 39, f 40, f 41, f 42, f 43, f 44, f 45, f 46, f 47, f 48, f 49, f 50, f 51, f 52, f 53, f 54, f 55, f 56, f 57, f 58, f 59, f 60, f 61, f 62, f 63, f 64, f 65, f 66, f 67, f 68, f 69, f 70, f 71, f 72, f 73, f 74, f 75, f 76, f 77, f 78, f 79, f 80, f 81, f 82, f 83, f 84, f 85, f 86, f 87, f 88, f 89, f 90, f 91, f 92, f 93, f 94, f 95, f 96, f 97, f 98, f 99, f 100, f 101, f 102, f 103, f 104, f 105, f 106, f 107, f 108, f 109, f 110, f 111, f 112, f 113, f 114, f 115, f 116, f 117, f 118, f 119, f 120, f 121, f 122, f 123, f 124, f 125]) rfl
    simp only [g3, g4, g5, g6, g9, g68, g69, g70, g71, g10] at ha
    clear F hF hf g3 g4 g5 g6 g9 g68 g69 g70 g71 g10
    subst ha
    have hJ1 := hJ
    obtain ⟨jx, jy, jz, js⟩ := hJ1
    skip
    go_simp
    refine hK _ _ ?_
    clear hK
    clear hJ
    have hJ : JT W g bx y bz ⟨xe, xr, xf, xp⟩ ⟨xe + 1, yr, yf, yp⟩ ⟨xe + 2, zr, zf, xp⟩ w := ⟨jx, jy, jz, js⟩
    clear jx jy jz js
    obtain ⟨A, hA⟩ : ∃ A, A = tx (sbytes ⟨xe, xr, xf, xp⟩) := ⟨_, rfl⟩
    obtain ⟨C, hC⟩ : ∃ C, C = tx (sbytes ⟨xe + 2, zr, zf, xp⟩) := ⟨_, rfl⟩
    rw [← hA, ← hC]
    have hAs : A.size = 256 := by rw [hA]; exact sbytes_len _
    have hCs : C.size = 256 := by rw [hC]; exact sbytes_len _
    have HA := Lib.hid hA
    have HC := Lib.hid hC
    clear hA hC
    go_wp2_with fail
    go_loop [12, 13] (fun t i => ∃ (k : Nat) (T : ByteArray), k ≤ 4 ∧ T.size = 64 * k ∧ t = .string T ∧ i = .int .i64 k) (fun _ i => 4 - (intOf i).toNat)
    case atStart => exact ⟨0, ⟨#[]⟩, by omega, rfl, rfl, rfl⟩
    case round =>
      obtain ⟨k, T, hk, hT, rfl, rfl⟩ := hrel
      have HT := Lib.hid hT
      clear hT
      by_cases hlt : k < 4
      · have hk : k = 0 ∨ k = 1 ∨ k = 2 ∨ k = 3 := by omega
        have ha : ∀ i, i + 64 ≤ 256 → (A.extract i (i + 64)).size = 64 := fun i hi => by rw [ByteArray.size_extract, hAs]; omega
        have hc : ∀ i, i + 64 ≤ 256 → (C.extract i (i + 64)).size = 64 := fun i hi => by rw [ByteArray.size_extract, hCs]; omega
        have Ha := Lib.hid ha
        have Hc := Lib.hid hc
        clear ha hc
        have hov : ¬ 9223372036854775807 < T.size + 64 := by have := HT.out; omega
        rcases hk with rfl | rfl | rfl | rfl
        · go_wp2_with fail
          all_goals (go_round; (case rel => first | exact ⟨1, _, by omega, by rw [ByteArray.size_append, HT.out, Hc.out 0 (by omega)], rfl, rfl⟩ | exact ⟨1, _, by omega, by rw [ByteArray.size_append, HT.out, Ha.out 0 (by omega)], rfl, rfl⟩); (case measure => simp [intOf]))
        · go_wp2_with fail
          all_goals (go_round; (case rel => first | exact ⟨2, _, by omega, by rw [ByteArray.size_append, HT.out, Hc.out 64 (by omega)], rfl, rfl⟩ | exact ⟨2, _, by omega, by rw [ByteArray.size_append, HT.out, Ha.out 64 (by omega)], rfl, rfl⟩); (case measure => simp [intOf]))
        · go_wp2_with fail
          all_goals (go_round; (case rel => first | exact ⟨3, _, by omega, by rw [ByteArray.size_append, HT.out, Hc.out 128 (by omega)], rfl, rfl⟩ | exact ⟨3, _, by omega, by rw [ByteArray.size_append, HT.out, Ha.out 128 (by omega)], rfl, rfl⟩); (case measure => simp [intOf]))
        · go_wp2_with fail
          all_goals (go_round; (case rel => first | exact ⟨4, _, by omega, by rw [ByteArray.size_append, HT.out, Hc.out 192 (by omega)], rfl, rfl⟩ | exact ⟨4, _, by omega, by rw [ByteArray.size_append, HT.out, Ha.out 192 (by omega)], rfl, rfl⟩); (case measure => simp [intOf]))
      · obtain rfl : k = 4 := by omega
        have hT : T.size = 256 := HT.out
        have HT := Lib.hid hT
        have hcv := cv_run w T
        have hcp := cp_ge w T
        rw [hT] at hcv hcp
        clear hT
        have hbb := cv_blk w T
        have hcb := cv_below w T
        have j7 := hJ.below hcb
        have htg : w.heap.size ≠ g := by have := hJ.js.lt; omega
        have hk1 : 256 ≤ cp w T := hcp
        have hp := rput_any (cv w T) ⟨xe + 1, yr, yf, yp⟩ HOY.out
        obtain ⟨c0, c1, c2, c3⟩ := j7.jy.cells
        clear hJ hcb
        go_wp2_with fail
        (with_reducible refine hp.mono ?_)
        clear hp hcv c0 c1 c2 c3
        rintro e w8 ⟨rfl, b8⟩
        have j8 := j7.below b8
        have t8 := hbb.below b8
        have hcv := cv_run w8 (tx (sbytes ⟨xe + 1, yr, yf, yp⟩))
        have hk2 := cp_ge w8 (tx (sbytes ⟨xe + 1, yr, yf, yp⟩))
        have hbb2 := cv_blk w8 (tx (sbytes ⟨xe + 1, yr, yf, yp⟩))
        have hcb := cv_below w8 (tx (sbytes ⟨xe + 1, yr, yf, yp⟩))
        rw [show (tx (sbytes ⟨xe + 1, yr, yf, yp⟩)).size = 256 from sbytes_len _] at hcv hk2
        have j9 := j8.below hcb
        have t9 := t8.below hcb
        have q9 : Blk8 (cv w8 (tx (sbytes ⟨xe + 1, yr, yf, yp⟩))) w8.heap.size (sbytes ⟨xe + 1, yr, yf, yp⟩) := hbb2
        have hqg : w8.heap.size ≠ g := by have := j8.js.lt; omega
        have hxz : ¬ A = C := fun h => by
          rw [HA.out, HC.out] at h
          have := congrArg (fun b : ByteArray => b.data.toList) h
          have := congrArg Sp.ep (sbytes_inj HOX.out HOZ.out (by simpa [tx] using this))
          simp only at this
          omega
        clear j7 j8 t8 hbb hbb2 hcb b8
        by_cases hTC : T = C
        · subst hTC
          have hl : Blk.bl T = sbytes ⟨xe + 2, zr, zf, xp⟩ := by rw [HC.out]; rfl
          have hcall := pick_s HS.out j9.js (by omega) ⟨_, 0, none⟩ ⟨_, 0, none⟩ (cp w T) (cp w8 (tx (sbytes ⟨xe + 1, yr, yf, yp⟩))) (Blk.bl T) (sbytes ⟨xe + 1, yr, yf, yp⟩) (t9.rowX htg) (q9.rowX hqg) HT.out (sbytes_len _) hk1 hk2
          rw [hl, pick_two HOZ.out HOY.out (show (xe + 2) % 2 = 0 by have := HPX.out; omega) (show (xe + 1) % 2 = 1 by have := HPX.out; omega), show (if (⟨xe + 1, yr, yf, yp⟩ : Sp).ep < (⟨xe + 2, zr, zf, xp⟩ : Sp).ep then (⟨xe + 2, zr, zf, xp⟩ : Sp) else ⟨xe + 1, yr, yf, yp⟩) = ⟨xe + 2, zr, zf, xp⟩ from if_pos (show xe + 1 < xe + 2 by omega), show ansOf (Sum.inr ⟨xe + 2, zr, zf, xp⟩) = .tuple #[.agg #[.int .i64 (xe + 2), .int .i64 zr, .int .i64 zf, .int .i64 xp], .int .i64 0] from rfl] at hcall
          go_wp2_with fail
          (with_reducible refine hcall.mono ?_)
          clear hcall
          rintro e wC ⟨rfl, sC, oC⟩
          have yC := j9.jy.only oC hyg
          have zC := j9.jz.only oC hzg
          clear j9 t9 q9 oC
          obtain ⟨wD, hwD⟩ : ∃ u, u = wC.alloc (.cells #[.int .i64 (xe + 2), .int .i64 zr, .int .i64 zf, .int .i64 xp] 23) := ⟨_, rfl⟩
          have hbD : Below wC.heap.size wC wD := by rw [hwD]; exact al' _ _
          have yD := yC.below hbD
          have zD := zC.below hbD
          have sD := sC.below hbD
          have vD : Bs wD wC.heap.size ⟨xe + 2, zr, zf, xp⟩ := by rw [hwD]; exact bs_new wC ⟨xe + 2, zr, zf, xp⟩
          have HWD := Lib.hid hwD
          clear yC zC sC hbD hwD
          generalize hbv : wC.heap.size = bv at *
          obtain ⟨y0, y1, y2, y3⟩ := yD.cells
          obtain ⟨z0, z1, z2, z3⟩ := zD.cells
          obtain ⟨v0, v1, v2, v3⟩ := vD.cells
          go_upto_region 13 with fail
          try rw [← HWD.out]
          try rw [hbv]
          go_wp2_with fail
          go_ret
          exact ⟨rfl, sD.base⟩
        · have etc : (T.toList == C.toList) = false := by rw [Str.ba_beq]; simpa using hTC
          by_cases hTA : T = A
          · subst hTA
            have hl : Blk.bl T = sbytes ⟨xe, xr, xf, xp⟩ := by rw [HA.out]; rfl
            have hcall := pick_s HS.out j9.js (by omega) ⟨_, 0, none⟩ ⟨_, 0, none⟩ (cp w T) (cp w8 (tx (sbytes ⟨xe + 1, yr, yf, yp⟩))) (Blk.bl T) (sbytes ⟨xe + 1, yr, yf, yp⟩) (t9.rowX htg) (q9.rowX hqg) HT.out (sbytes_len _) hk1 hk2
            rw [hl, pick_two HOX.out HOY.out HPX.out (show (xe + 1) % 2 = 1 by have := HPX.out; omega), show (if (⟨xe + 1, yr, yf, yp⟩ : Sp).ep < (⟨xe, xr, xf, xp⟩ : Sp).ep then (⟨xe, xr, xf, xp⟩ : Sp) else ⟨xe + 1, yr, yf, yp⟩) = ⟨xe + 1, yr, yf, yp⟩ from if_neg (show ¬ xe + 1 < xe by omega), show ansOf (Sum.inr ⟨xe + 1, yr, yf, yp⟩) = .tuple #[.agg #[.int .i64 (xe + 1), .int .i64 yr, .int .i64 yf, .int .i64 yp], .int .i64 0] from rfl] at hcall
            go_wp2_with fail
            (with_reducible refine hcall.mono ?_)
            clear hcall
            rintro e wC ⟨rfl, sC, oC⟩
            have yC := j9.jy.only oC hyg
            have zC := j9.jz.only oC hzg
            clear j9 t9 q9 oC
            obtain ⟨wD, hwD⟩ : ∃ u, u = wC.alloc (.cells #[.int .i64 (xe + 1), .int .i64 yr, .int .i64 yf, .int .i64 yp] 23) := ⟨_, rfl⟩
            have hbD : Below wC.heap.size wC wD := by rw [hwD]; exact al' _ _
            have yD := yC.below hbD
            have zD := zC.below hbD
            have sD := sC.below hbD
            have vD : Bs wD wC.heap.size ⟨xe + 1, yr, yf, yp⟩ := by rw [hwD]; exact bs_new wC ⟨xe + 1, yr, yf, yp⟩
            have HWD := Lib.hid hwD
            clear yC zC sC hbD hwD
            generalize hbv : wC.heap.size = bv at *
            obtain ⟨y0, y1, y2, y3⟩ := yD.cells
            obtain ⟨z0, z1, z2, z3⟩ := zD.cells
            obtain ⟨v0, v1, v2, v3⟩ := vD.cells
            go_upto_region 13 with fail
            try rw [← HWD.out]
            try rw [hbv]
            go_wp2_with fail
            go_ret
            exact ⟨rfl, sD.base⟩
          · have eta : (T.toList == A.toList) = false := by rw [Str.ba_beq]; simpa using hTA
            obtain ⟨vr, vf, vp, ve, hpk⟩ := torn_pick (l := Blk.bl T) HOY.out (by show (xe + 1) % 2 = 1; have := HPX.out; omega)
            have hcall := pick_s HS.out j9.js (by omega) ⟨_, 0, none⟩ ⟨_, 0, none⟩ (cp w T) (cp w8 (tx (sbytes ⟨xe + 1, yr, yf, yp⟩))) (Blk.bl T) (sbytes ⟨xe + 1, yr, yf, yp⟩) (t9.rowX htg) (q9.rowX hqg) HT.out (sbytes_len _) hk1 hk2
            rw [hpk, show ansOf (Sum.inr ⟨ve, vr, vf, vp⟩) = .tuple #[.agg #[.int .i64 ve, .int .i64 vr, .int .i64 vf, .int .i64 vp], .int .i64 0] from rfl] at hcall
            go_wp2_with fail
            (with_reducible refine hcall.mono ?_)
            clear hcall
            rintro e wC ⟨rfl, sC, oC⟩
            have yC := j9.jy.only oC hyg
            have zC := j9.jz.only oC hzg
            clear j9 t9 q9 oC
            obtain ⟨wD, hwD⟩ : ∃ u, u = wC.alloc (.cells #[.int .i64 ve, .int .i64 vr, .int .i64 vf, .int .i64 vp] 23) := ⟨_, rfl⟩
            have hbD : Below wC.heap.size wC wD := by rw [hwD]; exact al' _ _
            have yD := yC.below hbD
            have zD := zC.below hbD
            have sD := sC.below hbD
            have vD : Bs wD wC.heap.size ⟨ve, vr, vf, vp⟩ := by rw [hwD]; exact bs_new wC ⟨ve, vr, vf, vp⟩
            have HWD := Lib.hid hwD
            clear yC zC sC hbD hwD
            generalize hbv : wC.heap.size = bv at *
            obtain ⟨y0, y1, y2, y3⟩ := yD.cells
            obtain ⟨z0, z1, z2, z3⟩ := zD.cells
            obtain ⟨v0, v1, v2, v3⟩ := vD.cells
            go_upto_region 13 with fail
            try rw [← HWD.out]
            try rw [hbv]
            go_wp2_with fail
            go_ret
            exact ⟨rfl, sD.base⟩
  · intro hq; exact absurd hq (by decide +kernel)
end Go.Proofs.Ytcnblgienombeaa.SuperTorn
