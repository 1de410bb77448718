/- The walk of SuperPicks, by what the calls are asked for. -/
import Derived.Test.YtcnblgienombeaaSuperAwake
import Derived.Test.YtcnblgienombeaaInv2
import Derived.Test.YtcnblgienombeaaFrames
import Derived.Test.YtcnblgienombeaaBlk
namespace Go.Proofs.Ytcnblgienombeaa.SuperPicks
open Go.RowKit Base SumPlain SumMem SumFill SumOf PagePlain PageSmall PageBytes PageLay PagePut PageFour PageAwake SuperPlain SuperRefCheck SuperPlumb SuperSpec SuperAwake SuperRefPut
open Blk (cp cv cv_run cv_below cv_blk Blk8)

/-- a new slice of a super's bytes -/
def SlB (n0 : Nat) (x : Sp) (v : Value) (w : World) : Prop := ∃ b c, v = .slice (some ⟨b, 0, none⟩) 256 c ∧ 256 ≤ c ∧ n0 ≤ b ∧ Blk8 w b (sbytes x)
theorem SlB.below {n0 : Nat} {x : Sp} {v : Value} {w w' : World} (h : SlB n0 x v w) (hb : Below w.heap.size w w') : SlB n0 x v w' := by
  obtain ⟨b, c, h1, h2, h4, h3⟩ := h
  exact ⟨b, c, h1, h2, h4, h3.below hb⟩
theorem cp_ge (w : World) (s : ByteArray) : s.size ≤ cp w s := grownCap_ge w s.size 0 _
theorem slb_new {n0 : Nat} (w : World) (x : Sp) (hn : n0 ≤ w.heap.size) : SlB n0 x (.slice (some ⟨w.heap.size, 0, none⟩) (tx (sbytes x)).size (cp w (tx (sbytes x)))) (cv w (tx (sbytes x))) :=
  ⟨_, _, by rw [show (tx (sbytes x)).size = 256 from sbytes_len x], by have := cp_ge w (tx (sbytes x)); rw [show (tx (sbytes x)).size = 256 from sbytes_len x] at this; exact this, hn, cv_blk w _⟩
theorem blk_apart {w : World} {b c : Nat} {x y : Sp} (h : Blk8 w b (sbytes x)) (h' : Blk8 w c (sbytes y)) (hx : Ok x) (hy : Ok y) (hne : x.ep ≠ y.ep) : b ≠ c := by
  rintro rfl
  refine hne (congrArg Sp.ep (sbytes_inj hx hy (List.ext_getElem (by rw [sbytes_len, sbytes_len]) fun i h1 h2 => ?_)))
  have e1 := h.cell i h1
  have e2 := h'.cell i h2
  rw [e1] at e2
  injection e2 with e2
  injection e2 with _ e2
  exact UInt8.toNat_inj.1 (by omega)
theorem two {w : World} {g : Nat} {t : TypeId} {a b : Value} (h : At w g t #[a, b]) : w.cell? ⟨g, 0, none⟩ = some a ∧ w.cell? ⟨g, 1, none⟩ = some b :=
  ⟨by rw [h.cell]; rfl, by rw [h.cell]; rfl⟩
structure JK (W : World) (g bx y bt n0 : Nat) (x z : Sp) (a b : Nat) (w : World) : Prop where
  jx : Bs w bx x
  jy : Bs w y z
  jt : At w bt 42 #[.int .u16 (a : Int), .int .u16 (b : Int)]
  js : Sg W g 0 w
  jn : n0 ≤ w.heap.size
theorem JK.below {W w w' : World} {g bx y bt n0 a b : Nat} {x z : Sp} (h : JK W g bx y bt n0 x z a b w) (hb : Below w.heap.size w w') : JK W g bx y bt n0 x z a b w' :=
  ⟨h.jx.below hb, h.jy.below hb, at_below h.jt hb, h.js.below hb, Nat.le_trans h.jn hb.size⟩
/-- a third box -/
structure JM (W : World) (bx y bz : Nat) (x z v : Sp) (w : World) : Prop where
  jx : Bs w bx x
  jy : Bs w y z
  jv : Bs w bz v
  jb : Below W.heap.size W w
theorem JM.below {W w w' : World} {bx y bz : Nat} {x z v : Sp} (h : JM W bx y bz x z v w) (hb : Below w.heap.size w w') : JM W bx y bz x z v w' :=
  ⟨h.jx.below hb, h.jy.below hb, h.jv.below hb, h.jb.trans (hb.mono h.jb.size)⟩
structure JL (W : World) (g bx y bt n0 b1 b2 : Nat) (x z : Sp) (a b : Nat) (w : World) : Prop where
  j0 : JK W g bx y bt n0 x z a b w
  j1 : Blk8 w b1 (sbytes x)
  j2 : Blk8 w b2 (sbytes z)
theorem JL.below {W w w' : World} {g bx y bt n0 b1 b2 a b : Nat} {x z : Sp} (h : JL W g bx y bt n0 b1 b2 x z a b w) (hb : Below w.heap.size w w') : JL W g bx y bt n0 b1 b2 x z a b w' :=
  ⟨h.j0.below hb, h.j1.below hb, h.j2.below hb⟩
/-- the boxes of the law's own arguments -/
theorem boxes (W : World) (x z : Sp) (a b : Nat) : ∃ w, ((W.alloc (.cells #[.int .i64 x.ep, .int .i64 x.root, .int .i64 x.free, .int .i64 x.pages] 23)).alloc (.cells #[.int .i64 z.ep, .int .i64 z.root, .int .i64 z.free, .int .i64 z.pages] 23)).alloc (.cells #[.int .u16 (a : Int), .int .u16 (b : Int)] 42) = w ∧
    Bs w W.heap.size x ∧ Bs w (W.heap.size + 1) z ∧ At w (W.heap.size + 1 + 1) 42 #[.int .u16 (a : Int), .int .u16 (b : Int)] ∧ Below W.heap.size W w := by
  refine ⟨_, rfl, ?_, ?_, ?_, ?_⟩
  · exact ((bs_new W x).below (al' _ _)).below (al' _ _)
  · have := (bs_new (W.alloc (.cells #[.int .i64 x.ep, .int .i64 x.root, .int .i64 x.free, .int .i64 x.pages] 23)) z).below (al' _ (.cells #[.int .u16 (a : Int), .int .u16 (b : Int)] 42))
    simpa using this
  · have := heap_alloc_new ((W.alloc (.cells #[.int .i64 x.ep, .int .i64 x.root, .int .i64 x.free, .int .i64 x.pages] 23)).alloc (.cells #[.int .i64 z.ep, .int .i64 z.root, .int .i64 z.free, .int .i64 z.pages] 23)) (.cells #[.int .u16 (a : Int), .int .u16 (b : Int)] 42)
    show _ = _
    simpa using this
  · exact ((al' W _).alloc (by simp) _).alloc (by simp; omega) _
set_option maxRecDepth 100000 in
set_option maxHeartbeats 12800000 in
theorem picks_any (S : Specs) (W : World) (x z : Sp) (m0 m1 : Nat) (hm0 : m0 < 65536) (hm1 : m1 < 65536) : Calls Try.prog 5 #[sv x, sv z, .agg #[.int .u16 (m0 : Int), .int .u16 (m1 : Int)]] W (Law W) := by
  have HS := Lib.hid S
  clear S
  obtain ⟨xe, xr, xf, xp⟩ := x
  obtain ⟨ye, yr, yf, yp⟩ := z
  obtain ⟨w1, hw1, x1, y1, t1, h1⟩ := boxes W ⟨xe, xr, xf, xp⟩ ⟨ye, yr, yf, yp⟩ m0 m1
  simp only at hw1
  have HW1 := Lib.hid hw1
  clear hw1
  unfold Law
  go_enter Try.func5, Try.ntmps5
  go_upto_region 1 with fail
  rw [HW1.out]
  obtain ⟨bx, hbx⟩ : ∃ n, n = W.heap.size := ⟨_, rfl⟩
  rw [← hbx] at x1 y1 t1 ⊢
  obtain ⟨y, hy⟩ : ∃ n, n = bx + 1 := ⟨_, rfl⟩
  rw [← hy] at y1 t1 ⊢
  obtain ⟨bt, hbt⟩ : ∃ n, n = y + 1 := ⟨_, rfl⟩
  rw [← hbt] at t1 ⊢
  have hbxW : W.heap.size ≤ bx := by omega
  have hbyW : W.heap.size ≤ y := by omega
  have hxy : bx ≠ y := by omega
  clear hbx hy hbt HW1
  have hcall := new_t h1
  go_wp2_with fail
  (with_reducible refine hcall.mono ?_)
  clear hcall
  rintro e w2 ⟨g, rfl, s2, b2, hg⟩
  have hxg : bx ≠ g := by have := x1.lt; omega
  have hyg : y ≠ g := by have := y1.lt; omega
  have j2 : JK W g bx y bt 0 ⟨xe, xr, xf, xp⟩ ⟨ye, yr, yf, yp⟩ m0 m1 w2 := ⟨x1.below b2, y1.below b2, at_below t1 b2, s2, Nat.zero_le _⟩
  clear x1 y1 t1 s2 b2 hg h1
  have hcall := awake_any HS.out w2
  unfold Law at hcall
  go_wp2_with fail
  (with_reducible refine hcall.mono ?_)
  clear hcall
  rintro e w3 ⟨rfl, b3⟩
  have j3 := j2.below b3
  clear j2 b3
  have hcall := rcheck_any w3 ⟨xe, xr, xf, xp⟩
  obtain ⟨c0, c1, c2, c3⟩ := j3.jx.cells
  go_wp2_with fail
  (with_reducible refine hcall.mono ?_)
  clear hcall c0 c1 c2 c3
  rintro e w4 ⟨rfl, b4⟩
  have j4 := j3.below b4
  clear j3 b4
  by_cases hox : Ok ⟨xe, xr, xf, xp⟩
  rotate_left
  · rw [decide_eq_false hox]
    clear hox
    have hcall := awake_any HS.out w4
    unfold Law at hcall
    go_wp2_with fail
    (with_reducible refine hcall.mono ?_)
    clear hcall
    rintro e w' ⟨rfl, b'⟩
    have hz := (j4.below b').js.base
    go_wp2_with fail
    go_ret
    exact ⟨rfl, hz⟩
  rw [decide_eq_true hox]
  have hcall := rcheck_any w4 ⟨ye, yr, yf, yp⟩
  obtain ⟨c0, c1, c2, c3⟩ := j4.jy.cells
  have HOX := Lib.hid hox
  clear hox
  go_wp2_with fail
  (with_reducible refine hcall.mono ?_)
  clear hcall c0 c1 c2 c3
  rintro e w5 ⟨rfl, b5⟩
  have j5 := j4.below b5
  clear j4 b5
  by_cases hoy : Ok ⟨ye, yr, yf, yp⟩
  rotate_left
  · rw [decide_eq_false hoy]
    clear hoy
    have hcall := awake_any HS.out w5
    unfold Law at hcall
    go_wp2_with fail
    (with_reducible refine hcall.mono ?_)
    clear hcall
    rintro e w' ⟨rfl, b'⟩
    have hz := (j5.below b').js.base
    go_wp2_with fail
    go_ret
    exact ⟨rfl, hz⟩
  rw [decide_eq_true hoy]
  have HOY := Lib.hid hoy
  clear hoy
  obtain ⟨c0, c1, c2, c3⟩ := j5.jx.cells
  obtain ⟨d0, d1, d2, d3⟩ := j5.jy.cells
  have emx : xe.tmod 2 = xe % 2 := Int.tmod_eq_emod_of_nonneg HOX.out.1
  have emy : ye.tmod 2 = ye % 2 := Int.tmod_eq_emod_of_nonneg HOY.out.1
  by_cases hpx : xe % 2 = 0
  rotate_left
  · rw [show xe % 2 = 1 by omega] at emx
    clear hpx emy
    have hcall := awake_any HS.out w5
    unfold Law at hcall
    go_wp2_with fail
    (with_reducible refine hcall.mono ?_)
    clear hcall
    rintro e w' ⟨rfl, b'⟩
    have hz := (j5.below b').js.base
    go_wp2_with fail
    go_ret
    exact ⟨rfl, hz⟩
  by_cases hpy : ye % 2 = 1
  rotate_left
  · rw [show ye % 2 = 0 by omega] at emy
    rw [hpx] at emx
    clear hpx hpy
    have hcall := awake_any HS.out w5
    unfold Law at hcall
    go_wp2_with fail
    (with_reducible refine hcall.mono ?_)
    clear hcall
    rintro e w' ⟨rfl, b'⟩
    have hz := (j5.below b').js.base
    go_wp2_with fail
    go_ret
    exact ⟨rfl, hz⟩
  rw [hpx] at emx
  rw [hpy] at emy
  have HPX := Lib.hid hpx
  have HPY := Lib.hid hpy
  clear hpx hpy
  go_upto_region 4 with fail
  clear c0 c1 c2 c3 d0 d1 d2 d3 emx emy
  have hgn := j5.js.lt
  have hxn := j5.jx.lt
  have hyn := j5.jy.lt
  have hWn := j5.js.base.size
  have j5' : JK W g bx y bt w5.heap.size ⟨xe, xr, xf, xp⟩ ⟨ye, yr, yf, yp⟩ m0 m1 w5 := ⟨j5.jx, j5.jy, j5.jt, j5.js, Nat.le_refl _⟩
  generalize w5.heap.size = n0 at *
  have hJ0 := j5'.below (Below.refl _ _).drew
  clear j5 j5'
  refine wp_region_any (by kernel_rfl) ?_
  change wpAny _ _ _ _ _ _ _ (World.drew _)
  refine Inv.inv_any (fun (i : Nat) (v : Value) (w : World) => match i with | 0 => v = .agg #[.int .i64 xe, .int .i64 xr, .int .i64 xf, .int .i64 xp] | 1 => v = .string (tx (sbytes ⟨xe, xr, xf, xp⟩)) | 2 => SlB n0 ⟨xe, xr, xf, xp⟩ v w | 3 => v = .agg #[.int .i64 ye, .int .i64 yr, .int .i64 yf, .int .i64 yp] | 4 => v = .string (tx (sbytes ⟨ye, yr, yf, yp⟩)) | 5 => SlB n0 ⟨ye, yr, yf, yp⟩ v w | 6 => SlB n0 ⟨xe, xr, xf, xp⟩ v w | _ => True) (fun w' : World => JK W g bx y bt n0 ⟨xe, xr, xf, xp⟩ ⟨ye, yr, yf, yp⟩ m0 m1 w') _ 7 142 rfl rfl rfl (by kernel_rfl) (by kernel_rfl) hJ0 ?_ ?_ ?_ ?_
  · intro j v w w' h hb
    match j, h with
    | 0, h => exact h
    | 1, h => exact h
    | 2, h => exact SlB.below h hb
    | 3, h => exact h
    | 4, h => exact h
    | 5, h => exact SlB.below h hb
    | 6, h => exact SlB.below h hb
    | 7, _ => exact trivial
    | (_ + 8), _ => exact trivial
  · skip
    refine Inv.from_cons _ _ _ _ rfl (fun _ a w hJ hF F K hK => ?_) ?_
    · have hz : a.tmps.size = 142 := hF.size
      have e3 : a.tmps[3]? = some (.pointer (some ⟨bx, 0, none⟩)) := Inv2.some_slot (by rw [hz]; exact Nat.le_of_ble_eq_true rfl) (hF.slot 3 (by kernel_rfl))
      clear F hF hz
      have hJ1 := hJ
      obtain ⟨jx, jy, jt, js, jn⟩ := hJ1
      obtain ⟨c0, c1, c2, c3⟩ := jx.cells
      go_simp
      exact hK (.agg #[.int .i64 xe, .int .i64 xr, .int .i64 xf, .int .i64 xp]) _ hJ (Below.refl _ _) rfl
    refine Inv.from_cons _ _ _ _ rfl (fun _ a w hJ hF F K hK => ?_) ?_
    · have hz : a.tmps.size = 142 := hF.size
      have e44 : a.tmps[44]? = some (.agg #[.int .i64 xe, .int .i64 xr, .int .i64 xf, .int .i64 xp]) := Inv2.some_slot (by rw [hz]; exact Nat.le_of_ble_eq_true rfl) (F 0 (by kernel_rfl) 44 rfl)
      clear F hF hz
      have hJ1 := hJ
      obtain ⟨jx, jy, jt, js, jn⟩ := hJ1
      have hh := rput_any w ⟨xe, xr, xf, xp⟩ HOX.out
      go_simp
      (with_reducible refine hh.mono ?_)
      rintro e' w' ⟨rfl, hb⟩
      go_simp
      exact hK _ _ (hJ.below hb) hb rfl
    refine Inv.from_cons _ _ _ _ rfl (fun _ a w hJ hF F K hK => ?_) ?_
    · have hz : a.tmps.size = 142 := hF.size
      have e45 : a.tmps[45]? = some (.string (tx (sbytes ⟨xe, xr, xf, xp⟩))) := Inv2.some_slot (by rw [hz]; exact Nat.le_of_ble_eq_true rfl) (F 1 (by kernel_rfl) 45 rfl)
      clear F hF hz
      have hJ1 := hJ
      obtain ⟨jx, jy, jt, js, jn⟩ := hJ1
      have hcv := cv_run w (tx (sbytes ⟨xe, xr, xf, xp⟩))
      go_simp
      exact hK _ _ (hJ.below (cv_below _ _)) (cv_below _ _) (slb_new w ⟨xe, xr, xf, xp⟩ jn)
    refine Inv.from_cons _ _ _ _ rfl (fun _ a w hJ hF F K hK => ?_) ?_
    · have hz : a.tmps.size = 142 := hF.size
      have e4 : a.tmps[4]? = some (.pointer (some ⟨y, 0, none⟩)) := Inv2.some_slot (by rw [hz]; exact Nat.le_of_ble_eq_true rfl) (hF.slot 4 (by kernel_rfl))
      clear F hF hz
      have hJ1 := hJ
      obtain ⟨jx, jy, jt, js, jn⟩ := hJ1
      obtain ⟨c0, c1, c2, c3⟩ := jy.cells
      go_simp
      exact hK (.agg #[.int .i64 ye, .int .i64 yr, .int .i64 yf, .int .i64 yp]) _ hJ (Below.refl _ _) rfl
    refine Inv.from_cons _ _ _ _ rfl (fun _ a w hJ hF F K hK => ?_) ?_
    · have hz : a.tmps.size = 142 := hF.size
      have e45 : a.tmps[45]? = some (.string (tx (sbytes ⟨xe, xr, xf, xp⟩))) := Inv2.some_slot (by rw [hz]; exact Nat.le_of_ble_eq_true rfl) (F 1 (by kernel_rfl) 45 rfl)
      have e47 : a.tmps[47]? = some (.agg #[.int .i64 ye, .int .i64 yr, .int .i64 yf, .int .i64 yp]) := Inv2.some_slot (by rw [hz]; exact Nat.le_of_ble_eq_true rfl) (F 3 (by kernel_rfl) 47 rfl)
      clear F hF hz
      have hJ1 := hJ
      obtain ⟨jx, jy, jt, js, jn⟩ := hJ1
      have hh := rput_any w ⟨ye, yr, yf, yp⟩ HOY.out
      go_simp
      (with_reducible refine hh.mono ?_)
      rintro e' w' ⟨rfl, hb⟩
      go_simp
      exact hK _ _ (hJ.below hb) hb rfl
    refine Inv.from_cons _ _ _ _ rfl (fun _ a w hJ hF F K hK => ?_) ?_
    · have hz : a.tmps.size = 142 := hF.size
      have e48 : a.tmps[48]? = some (.string (tx (sbytes ⟨ye, yr, yf, yp⟩))) := Inv2.some_slot (by rw [hz]; exact Nat.le_of_ble_eq_true rfl) (F 4 (by kernel_rfl) 48 rfl)
      clear F hF hz
      have hJ1 := hJ
      obtain ⟨jx, jy, jt, js, jn⟩ := hJ1
      have hcv := cv_run w (tx (sbytes ⟨ye, yr, yf, yp⟩))
      go_simp
      exact hK _ _ (hJ.below (cv_below _ _)) (cv_below _ _) (slb_new w ⟨ye, yr, yf, yp⟩ jn)
    refine Inv.from_cons _ _ _ _ rfl (fun _ a w hJ hF F K hK => ?_) ?_
    · have hz : a.tmps.size = 142 := hF.size
      have e44 : a.tmps[44]? = some (.agg #[.int .i64 xe, .int .i64 xr, .int .i64 xf, .int .i64 xp]) := Inv2.some_slot (by rw [hz]; exact Nat.le_of_ble_eq_true rfl) (F 0 (by kernel_rfl) 44 rfl)
      have e45 : a.tmps[45]? = some (.string (tx (sbytes ⟨xe, xr, xf, xp⟩))) := Inv2.some_slot (by rw [hz]; exact Nat.le_of_ble_eq_true rfl) (F 1 (by kernel_rfl) 45 rfl)
      obtain ⟨x46, e46, f2⟩ : ∃ x, a.tmps[46]? = some x ∧ SlB n0 ⟨xe, xr, xf, xp⟩ x w := ⟨_, Inv2.some_slot (by rw [hz]; exact Nat.le_of_ble_eq_true rfl) rfl, F 2 (by kernel_rfl) 46 rfl⟩
      have e48 : a.tmps[48]? = some (.string (tx (sbytes ⟨ye, yr, yf, yp⟩))) := Inv2.some_slot (by rw [hz]; exact Nat.le_of_ble_eq_true rfl) (F 4 (by kernel_rfl) 48 rfl)
      clear F hF hz
      have hJ1 := hJ
      obtain ⟨jx, jy, jt, js, jn⟩ := hJ1
      go_simp
      exact hK _ _ hJ (Below.refl _ _) f2
    refine Inv.from_skip _ _ _ _ rfl ?_
    exact Inv.from_end _ _ _ _ (by decide +kernel)
  · intro o ho a w hJ hF F K hK
    injection (show some _ = some o from ho) with ho
    subst ho
    obtain ⟨f, hf⟩ : ∃ f : Nat → Value, ∀ i, a.tmps.getD i undef = f i := ⟨_, fun _ => rfl⟩
    have g3 : f 3 = (.pointer (some ⟨bx, 0, none⟩)) := (hf 3).symm.trans (hF.slot 3 (by kernel_rfl))
    have g4 : f 4 = (.pointer (some ⟨y, 0, none⟩)) := (hf 4).symm.trans (hF.slot 4 (by kernel_rfl))
    have g5 : f 5 = (.pointer (some ⟨bt, 0, none⟩)) := (hf 5).symm.trans (hF.slot 5 (by kernel_rfl))
    have g7 : f 7 = (.pointer (some ⟨g, 0, none⟩)) := (hf 7).symm.trans (hF.slot 7 (by kernel_rfl))
    have g44 : f 44 = (.agg #[.int .i64 xe, .int .i64 xr, .int .i64 xf, .int .i64 xp]) := (hf 44).symm.trans (F 0 (by decide) 44 rfl)
    have g45 : f 45 = (.string (tx (sbytes ⟨xe, xr, xf, xp⟩))) := (hf 45).symm.trans (F 1 (by decide) 45 rfl)
    obtain ⟨x46, g46⟩ : ∃ x, f 46 = x := ⟨_, rfl⟩
    have f2 : SlB n0 ⟨xe, xr, xf, xp⟩ x46 w := by rw [← g46, ← hf 46]; exact F 2 (by decide) 46 rfl
    have g47 : f 47 = (.agg #[.int .i64 ye, .int .i64 yr, .int .i64 yf, .int .i64 yp]) := (hf 47).symm.trans (F 3 (by decide) 47 rfl)
    have g48 : f 48 = (.string (tx (sbytes ⟨ye, yr, yf, yp⟩))) := (hf 48).symm.trans (F 4 (by decide) 48 rfl)
    obtain ⟨x49, g49⟩ : ∃ x, f 49 = x := ⟨_, rfl⟩
    have f5 : SlB n0 ⟨ye, yr, yf, yp⟩ x49 w := by rw [← g49, ← hf 49]; exact F 5 (by decide) 49 rfl
    obtain ⟨x8, g8⟩ : ∃ x, f 8 = x := ⟨_, rfl⟩
    have f6 : SlB n0 ⟨xe, xr, xf, xp⟩ x8 w := by rw [← g8, ← hf 8]; exact F 6 (by decide) 8 rfl
    have ha := Frames.frame (show a.tmps.size = 142 from hF.size) hF.defers hf (l := [f 0, f 1, f 2, f 3, f 4, f 5, f 6, f 7, f 8, f 9, f 10, f 11, f 12, f 13, f 14, f 15, f 16, f 17, f 18, f 19, f 20, f 21, f 22, f 23, f 24, f 25, f 26, f 27, f 28, f 29, f 30, f 31, f 32, f 33, f 34, f 35, f 36, f 37, f 38, f 39, f 40, f 41, f 42, f 43, f 44, f 45, f 46, f 47, f 48, f 49, f 50, f 51, f 52, f 53, f 54, f 55, f 56, f 57, f 58, f 59, f 60, f 61, f 62, f 63, f 64, f 65, f 66, f 67, f 68, f 69, f 70, f 71, f 72, f 73, f 74, f 75, f 76, f 77, f 78, f 79, f 80, f 81, f 82, f 83, f 84, f 85, f 86, f 87, f 88, f 89, f 90, f 91, f 92, f 93, f 94, f 95, f 96, f 97, f 98, f 99, f 100, f 101, f 102, f 103, f 104, f 105, f 106, f 107, f 108, f 109, f 110, f 111, f 112, f 113, f 114, f 115, f 116, f 117, f 118, f 119, f 120, f 121, f 122, f 123, f 124, f 125, f 126, f 127, f 128, f 129, f 130, f 131, f 132, f 133, f 134, f 135, f 136, f 137, f 138, f 139, f 140, f 141]) rfl
    simp only [g3, g4, g5, g7, g44, g45, g46, g47, g48, g49, g8] at ha
    clear F hF hf g3 g4 g5 g7 g44 g45 g46 g47 g48 g49 g8
    subst ha
    have hJ1 := hJ
    obtain ⟨jx, jy, jt, js, jn⟩ := hJ1
    skip
    obtain ⟨b1, k1, rfl, hc1, hb1, hk1⟩ := f6
    obtain ⟨b2, k2, rfl, hc2, hb2, hk2⟩ := f5
    go_simp
    refine hK _ _ ?_
    clear hK
    obtain ⟨p, hp⟩ : ∃ p : Nat, p = m0 % 600 := ⟨_, rfl⟩
    obtain ⟨q, hq⟩ : ∃ q : Nat, q = m1 % 600 := ⟨_, rfl⟩
    have HMA := Lib.hid (show (m0 : Int).tmod 600 = (p : Int) by rw [Int.tmod_eq_emod_of_nonneg (by omega)]; omega)
    have HMB := Lib.hid (show (m1 : Int).tmod 600 = (q : Int) by rw [Int.tmod_eq_emod_of_nonneg (by omega)]; omega)
    clear hp hq
    have hj5 : JL W g bx y bt n0 b1 b2 ⟨xe, xr, xf, xp⟩ ⟨ye, yr, yf, yp⟩ m0 m1 w := ⟨⟨jx, jy, jt, js, jn⟩, hk1, hk2⟩
    clear hJ jx jy jt js jn hk1 hk2
    go_upto_region 5 with fail
    have hJ0 := hj5.below (Below.refl _ _).drew
    clear hj5
    refine wp_region_any (by kernel_rfl) ?_
    change wpAny _ _ _ _ _ _ _ (World.drew _)
    refine Inv.inv_any (fun (i : Nat) (v : Value) (w : World) => match i with | 0 => v = .pointer (some ⟨bt, 0, none⟩) | 1 => v = .int .u16 (m0 : Int) | 2 => v = .int .i64 (m0 : Int) | 3 => v = .int .i64 (p : Int) | 4 => v = .pointer (some ⟨bt, 1, none⟩) | 5 => v = .int .u16 (m1 : Int) | 6 => v = .int .i64 (m1 : Int) | 7 => v = .int .i64 (q : Int) | 8 => v = .int .i64 (p : Int) | _ => True) (fun w' : World => JL W g bx y bt n0 b1 b2 ⟨xe, xr, xf, xp⟩ ⟨ye, yr, yf, yp⟩ m0 m1 w') _ 9 142 rfl rfl rfl (by kernel_rfl) (by kernel_rfl) hJ0 ?_ ?_ ?_ ?_
    · intro j v w w' h hb
      match j, h with
      | 0, h => exact h
      | 1, h => exact h
      | 2, h => exact h
      | 3, h => exact h
      | 4, h => exact h
      | 5, h => exact h
      | 6, h => exact h
      | 7, h => exact h
      | 8, h => exact h
      | 9, _ => exact trivial
      | (_ + 10), _ => exact trivial
    · skip
      refine Inv.from_cons _ _ _ _ rfl (fun _ a w hJ hF F K hK => ?_) ?_
      · have hz : a.tmps.size = 142 := hF.size
        have e5 : a.tmps[5]? = some (.pointer (some ⟨bt, 0, none⟩)) := Inv2.some_slot (by rw [hz]; exact Nat.le_of_ble_eq_true rfl) (hF.slot 5 (by kernel_rfl))
        clear F hF hz
        have hJ1 := hJ
        obtain ⟨⟨jx, jy, jt, js, jn⟩, j1, j2⟩ := hJ1
        go_simp
        exact hK (.pointer (some ⟨bt, 0, none⟩)) _ hJ (Below.refl _ _) rfl
      refine Inv.from_cons _ _ _ _ rfl (fun _ a w hJ hF F K hK => ?_) ?_
      · have hz : a.tmps.size = 142 := hF.size
        have e50 : a.tmps[50]? = some (.pointer (some ⟨bt, 0, none⟩)) := Inv2.some_slot (by rw [hz]; exact Nat.le_of_ble_eq_true rfl) (F 0 (by kernel_rfl) 50 rfl)
        clear F hF hz
        have hJ1 := hJ
        obtain ⟨⟨jx, jy, jt, js, jn⟩, j1, j2⟩ := hJ1
        obtain ⟨c0, c1⟩ := two jt
        go_simp
        exact hK (.int .u16 (m0 : Int)) _ hJ (Below.refl _ _) rfl
      refine Inv.from_cons _ _ _ _ rfl (fun _ a w hJ hF F K hK => ?_) ?_
      · have hz : a.tmps.size = 142 := hF.size
        have e51 : a.tmps[51]? = some (.int .u16 (m0 : Int)) := Inv2.some_slot (by rw [hz]; exact Nat.le_of_ble_eq_true rfl) (F 1 (by kernel_rfl) 51 rfl)
        clear F hF hz
        have hJ1 := hJ
        obtain ⟨⟨jx, jy, jt, js, jn⟩, j1, j2⟩ := hJ1
        have em1 : IntKind.i64.wrap (m0 : Int) = (m0 : Int) := IntWalk.i64_in _ (by omega)
        go_simp
        exact hK (.int .i64 (m0 : Int)) _ hJ (Below.refl _ _) rfl
      refine Inv.from_cons _ _ _ _ rfl (fun _ a w hJ hF F K hK => ?_) ?_
      · have hz : a.tmps.size = 142 := hF.size
        have e52 : a.tmps[52]? = some (.int .i64 (m0 : Int)) := Inv2.some_slot (by rw [hz]; exact Nat.le_of_ble_eq_true rfl) (F 2 (by kernel_rfl) 52 rfl)
        clear F hF hz
        have hJ1 := hJ
        obtain ⟨⟨jx, jy, jt, js, jn⟩, j1, j2⟩ := hJ1
        have em := HMA.out
        go_simp
        exact hK (.int .i64 (p : Int)) _ hJ (Below.refl _ _) rfl
      refine Inv.from_cons _ _ _ _ rfl (fun _ a w hJ hF F K hK => ?_) ?_
      · have hz : a.tmps.size = 142 := hF.size
        have e5 : a.tmps[5]? = some (.pointer (some ⟨bt, 0, none⟩)) := Inv2.some_slot (by rw [hz]; exact Nat.le_of_ble_eq_true rfl) (hF.slot 5 (by kernel_rfl))
        clear F hF hz
        have hJ1 := hJ
        obtain ⟨⟨jx, jy, jt, js, jn⟩, j1, j2⟩ := hJ1
        go_simp
        exact hK (.pointer (some ⟨bt, 1, none⟩)) _ hJ (Below.refl _ _) rfl
      refine Inv.from_cons _ _ _ _ rfl (fun _ a w hJ hF F K hK => ?_) ?_
      · have hz : a.tmps.size = 142 := hF.size
        have e54 : a.tmps[54]? = some (.pointer (some ⟨bt, 1, none⟩)) := Inv2.some_slot (by rw [hz]; exact Nat.le_of_ble_eq_true rfl) (F 4 (by kernel_rfl) 54 rfl)
        clear F hF hz
        have hJ1 := hJ
        obtain ⟨⟨jx, jy, jt, js, jn⟩, j1, j2⟩ := hJ1
        obtain ⟨c0, c1⟩ := two jt
        go_simp
        exact hK (.int .u16 (m1 : Int)) _ hJ (Below.refl _ _) rfl
      refine Inv.from_cons _ _ _ _ rfl (fun _ a w hJ hF F K hK => ?_) ?_
      · have hz : a.tmps.size = 142 := hF.size
        have e55 : a.tmps[55]? = some (.int .u16 (m1 : Int)) := Inv2.some_slot (by rw [hz]; exact Nat.le_of_ble_eq_true rfl) (F 5 (by kernel_rfl) 55 rfl)
        clear F hF hz
        have hJ1 := hJ
        obtain ⟨⟨jx, jy, jt, js, jn⟩, j1, j2⟩ := hJ1
        have em1 : IntKind.i64.wrap (m1 : Int) = (m1 : Int) := IntWalk.i64_in _ (by omega)
        go_simp
        exact hK (.int .i64 (m1 : Int)) _ hJ (Below.refl _ _) rfl
      refine Inv.from_cons _ _ _ _ rfl (fun _ a w hJ hF F K hK => ?_) ?_
      · have hz : a.tmps.size = 142 := hF.size
        have e56 : a.tmps[56]? = some (.int .i64 (m1 : Int)) := Inv2.some_slot (by rw [hz]; exact Nat.le_of_ble_eq_true rfl) (F 6 (by kernel_rfl) 56 rfl)
        clear F hF hz
        have hJ1 := hJ
        obtain ⟨⟨jx, jy, jt, js, jn⟩, j1, j2⟩ := hJ1
        have em := HMB.out
        go_simp
        exact hK (.int .i64 (q : Int)) _ hJ (Below.refl _ _) rfl
      refine Inv.from_cons _ _ _ _ rfl (fun _ a w hJ hF F K hK => ?_) ?_
      · have hz : a.tmps.size = 142 := hF.size
        have e50 : a.tmps[50]? = some (.pointer (some ⟨bt, 0, none⟩)) := Inv2.some_slot (by rw [hz]; exact Nat.le_of_ble_eq_true rfl) (F 0 (by kernel_rfl) 50 rfl)
        have e51 : a.tmps[51]? = some (.int .u16 (m0 : Int)) := Inv2.some_slot (by rw [hz]; exact Nat.le_of_ble_eq_true rfl) (F 1 (by kernel_rfl) 51 rfl)
        have e52 : a.tmps[52]? = some (.int .i64 (m0 : Int)) := Inv2.some_slot (by rw [hz]; exact Nat.le_of_ble_eq_true rfl) (F 2 (by kernel_rfl) 52 rfl)
        have e53 : a.tmps[53]? = some (.int .i64 (p : Int)) := Inv2.some_slot (by rw [hz]; exact Nat.le_of_ble_eq_true rfl) (F 3 (by kernel_rfl) 53 rfl)
        clear F hF hz
        have hJ1 := hJ
        obtain ⟨⟨jx, jy, jt, js, jn⟩, j1, j2⟩ := hJ1
        go_simp
        exact hK (.int .i64 (p : Int)) _ hJ (Below.refl _ _) rfl
      refine Inv.from_skip _ _ _ _ rfl ?_
      exact Inv.from_end _ _ _ _ (by decide +kernel)
    · intro o ho a w hJ hF F K hK
      injection (show some _ = some o from ho) with ho
      subst ho
      obtain ⟨f, hf⟩ : ∃ f : Nat → Value, ∀ i, a.tmps.getD i undef = f i := ⟨_, fun _ => rfl⟩
      have g3 : f 3 = (.pointer (some ⟨bx, 0, none⟩)) := (hf 3).symm.trans (hF.slot 3 (by kernel_rfl))
      have g4 : f 4 = (.pointer (some ⟨y, 0, none⟩)) := (hf 4).symm.trans (hF.slot 4 (by kernel_rfl))
      have g5 : f 5 = (.pointer (some ⟨bt, 0, none⟩)) := (hf 5).symm.trans (hF.slot 5 (by kernel_rfl))
      have g7 : f 7 = (.pointer (some ⟨g, 0, none⟩)) := (hf 7).symm.trans (hF.slot 7 (by kernel_rfl))
      have g8 : f 8 = (.slice (some ⟨b1, 0, none⟩) 256 k1) := (hf 8).symm.trans (hF.slot 8 (by kernel_rfl))
      have g9 : f 9 = (.slice (some ⟨b2, 0, none⟩) 256 k2) := (hf 9).symm.trans (hF.slot 9 (by kernel_rfl))
      have g50 : f 50 = (.pointer (some ⟨bt, 0, none⟩)) := (hf 50).symm.trans (F 0 (by decide) 50 rfl)
      have g51 : f 51 = (.int .u16 (m0 : Int)) := (hf 51).symm.trans (F 1 (by decide) 51 rfl)
      have g52 : f 52 = (.int .i64 (m0 : Int)) := (hf 52).symm.trans (F 2 (by decide) 52 rfl)
      have g53 : f 53 = (.int .i64 (p : Int)) := (hf 53).symm.trans (F 3 (by decide) 53 rfl)
      have g54 : f 54 = (.pointer (some ⟨bt, 1, none⟩)) := (hf 54).symm.trans (F 4 (by decide) 54 rfl)
      have g55 : f 55 = (.int .u16 (m1 : Int)) := (hf 55).symm.trans (F 5 (by decide) 55 rfl)
      have g56 : f 56 = (.int .i64 (m1 : Int)) := (hf 56).symm.trans (F 6 (by decide) 56 rfl)
      have g57 : f 57 = (.int .i64 (q : Int)) := (hf 57).symm.trans (F 7 (by decide) 57 rfl)
      have g10 : f 10 = (.int .i64 (p : Int)) := (hf 10).symm.trans (F 8 (by decide) 10 rfl)
      have ha := Frames.frame (show a.tmps.size = 142 from hF.size) hF.defers hf (l := [f 0, f 1, f 2, f 3, f 4, f 5, f 6, f 7, f 8, f 9, f 10, f 11, f 12, f 13, f 14, f 15, f 16, f 17, f 18, f 19, f 20, f 21, f 22, f 23, f 24, f 25, f 26, f 27, f 28, f 29, f 30, f 31, f 32, f 33, f 34, f 35, f 36, f 37, f 38, f 39, f 40, f 41, f 42, f 43, f 44, f 45, f 46, f 47, f 48, f 49, f 50, f 51, f 52, f 53, f 54, f 55, f 56, f 57, f 58, f 59, f 60, f 61, f 62, f 63, f 64, f 65, f 66, f 67, f 68, f 69, f 70, f 71, f 72, f 73, f 74, f 75, f 76, f 77, f 78, f 79, f 80, f 81, f 82, f 83, f 84, f 85, f 86, f 87, f 88, f 89, f 90, f 91, f 92, f 93, f 94, f 95, f 96, f 97, f 98, f 99, f 100, f 101, f 102, f 103, f 104, f 105, f 106, f 107, f 108, f 109, f 110, f 111, f 112, f 113, f 114, f 115, f 116, f 117, f 118, f 119, f 120, f 121, f 122, f 123, f 124, f 125, f 126, f 127, f 128, f 129, f 130, f 131, f 132, f 133, f 134, f 135, f 136, f 137, f 138, f 139, f 140, f 141]) rfl
      simp only [g3, g4, g5, g7, g8, g9, g50, g51, g52, g53, g54, g55, g56, g57, g10] at ha
      clear F hF hf g3 g4 g5 g7 g8 g9 g50 g51 g52 g53 g54 g55 g56 g57 g10
      subst ha
      have hJ1 := hJ
      obtain ⟨⟨jx, jy, jt, js, jn⟩, j1, j2⟩ := hJ1
      skip
      go_simp
      refine hK _ _ ?_
      clear hK
      have hne : xe ≠ ye := by have := HPX.out; have := HPY.out; omega
      have h12 : b1 ≠ b2 := blk_apart j1 j2 HOX.out HOY.out hne
      clear hJ jt jn
      by_cases hp : p < 256
      · have hp' : (p : Int) < 256 := by omega
        have ec := j1.cell p (by rw [sbytes_len]; exact hp)
        have ef := j1.frozen p (by rw [sbytes_len]; exact hp)
        obtain ⟨v, hv⟩ : ∃ v, (sbytes ⟨xe, xr, xf, xp⟩)[p]? = some v := ⟨_, List.getElem?_eq_getElem (by rw [sbytes_len]; exact hp)⟩
        have ej := j1.set p (by rw [sbytes_len]; exact hp) (v ^^^ 1)
        have ee : (sbytes ⟨xe, xr, xf, xp⟩).set p (v ^^^ 1) = SuperPlain.flip (sbytes ⟨xe, xr, xf, xp⟩) p := by
          unfold SuperPlain.flip
          rw [hv, Option.getD_some]
        rw [ee] at ej
        have ev : (sbytes ⟨xe, xr, xf, xp⟩)[p]'(by rw [sbytes_len]; exact hp) = v := by
          rw [List.getElem?_eq_getElem (by rw [sbytes_len]; exact hp)] at hv
          exact Option.some.inj hv
        rw [ev] at ec
        clear ee ev hv
        have ex : bits .xor .u8 (v.toNat : Int) 1 = ((v ^^^ 1).toNat : Int) := SumTurn.xor_pow v 0 (by omega)
        generalize v ^^^ 1 = u at ej ex
        go_upto_region 8 with fail
        clear ec ef ex
        obtain ⟨wA, hwn⟩ : ∃ x, x = w.setCell ⟨b1, p, none⟩ (.int .u8 (u.toNat : Int)) := ⟨_, rfl⟩
        try rw [← hwn] at ej
        try rw [← hwn]
        have jxA : Bs wA bx ⟨xe, xr, xf, xp⟩ := by rw [hwn]; exact jx.far (by show bx ≠ b1; omega) _
        have jyA : Bs wA y ⟨ye, yr, yf, yp⟩ := by rw [hwn]; exact jy.far (by show y ≠ b1; omega) _
        have jsA : Sg W g 0 wA := by rw [hwn]; exact js.far (by show g ≠ b1; omega) (by show W.heap.size ≤ b1; omega) _
        have j2A := j2.far (p := ⟨b1, p, none⟩) (by show b2 ≠ b1; omega) (.int .u8 (u.toNat : Int))
        rw [← hwn] at j2A
        have j1A := ej
        clear ej jx jy js j1 j2 hwn
        by_cases hq : q < 256
        · have hq' : (q : Int) < 256 := by omega
          have ec := j2A.cell q (by rw [sbytes_len]; exact hq)
          have ef := j2A.frozen q (by rw [sbytes_len]; exact hq)
          obtain ⟨v, hv⟩ : ∃ v, (sbytes ⟨ye, yr, yf, yp⟩)[q]? = some v := ⟨_, List.getElem?_eq_getElem (by rw [sbytes_len]; exact hq)⟩
          have ej := j2A.set q (by rw [sbytes_len]; exact hq) (v ^^^ 1)
          have ee : (sbytes ⟨ye, yr, yf, yp⟩).set q (v ^^^ 1) = SuperPlain.flip (sbytes ⟨ye, yr, yf, yp⟩) q := by
            unfold SuperPlain.flip
            rw [hv, Option.getD_some]
          rw [ee] at ej
          have ev : (sbytes ⟨ye, yr, yf, yp⟩)[q]'(by rw [sbytes_len]; exact hq) = v := by
            rw [List.getElem?_eq_getElem (by rw [sbytes_len]; exact hq)] at hv
            exact Option.some.inj hv
          rw [ev] at ec
          clear ee ev hv
          have ex : bits .xor .u8 (v.toNat : Int) 1 = ((v ^^^ 1).toNat : Int) := SumTurn.xor_pow v 0 (by omega)
          generalize v ^^^ 1 = u at ej ex
          go_upto_region 10 with fail
          clear ec ef ex
          obtain ⟨wB, hwn⟩ : ∃ x, x = wA.setCell ⟨b2, q, none⟩ (.int .u8 (u.toNat : Int)) := ⟨_, rfl⟩
          try rw [← hwn] at ej
          try rw [← hwn]
          have jxB : Bs wB bx ⟨xe, xr, xf, xp⟩ := by rw [hwn]; exact jxA.far (by show bx ≠ b2; omega) _
          have jyB : Bs wB y ⟨ye, yr, yf, yp⟩ := by rw [hwn]; exact jyA.far (by show y ≠ b2; omega) _
          have jsB : Sg W g 0 wB := by rw [hwn]; exact jsA.far (by show g ≠ b2; omega) (by show W.heap.size ≤ b2; omega) _
          have j1B := j1A.far (p := ⟨b2, q, none⟩) (by show b1 ≠ b2; omega) (.int .u8 (u.toNat : Int))
          rw [← hwn] at j1B
          have j2B := ej
          clear ej jxA jyA jsA j2A j1A hwn
          have hcall := pick_s HS.out jsB (by omega) ⟨b1, 0, none⟩ ⟨b2, 0, none⟩ k1 k2 (SuperPlain.flip (sbytes ⟨xe, xr, xf, xp⟩) p) (SuperPlain.flip (sbytes ⟨ye, yr, yf, yp⟩) q) (j1B.rowX (by omega)) (j2B.rowX (by omega)) (by first | exact sbytes_len _ | (rw [flip_len]; exact sbytes_len _)) (by first | exact sbytes_len _ | (rw [flip_len]; exact sbytes_len _)) hc1 hc2
          rw [pick_none HOX.out HOY.out hp hq, show ansOf (Sum.inl 70) = .tuple #[.agg #[.int .i64 0, .int .i64 0, .int .i64 0, .int .i64 0], .int .i64 70] from rfl] at hcall
          go_wp2_with fail
          (with_reducible refine hcall.mono ?_)
          clear hcall
          rintro e wC ⟨rfl, sC, oC⟩
          have xC := jxB.only oC (by omega)
          have yC := jyB.only oC (by omega)
          clear jxB jyB jsB oC j1B j2B
          obtain ⟨wD, hwD⟩ : ∃ u, u = wC.alloc (.cells #[.int .i64 0, .int .i64 0, .int .i64 0, .int .i64 0] 23) := ⟨_, rfl⟩
          have hbD : Below wC.heap.size wC wD := by rw [hwD]; exact al' _ _
          have xD := xC.below hbD
          have yD := yC.below hbD
          have sD := sC.below hbD
          have zD : Bs wD wC.heap.size ⟨0, 0, 0, 0⟩ := by rw [hwD]; exact bs_new wC ⟨0, 0, 0, 0⟩
          have HWD := Lib.hid hwD
          clear xC yC sC hbD hwD
          generalize hbz : wC.heap.size = bz at *
          obtain ⟨x0, x1, x2, x3⟩ := xD.cells
          obtain ⟨y0, y1, y2, y3⟩ := yD.cells
          obtain ⟨z0, z1, z2, z3⟩ := zD.cells
          go_upto_region 11 with fail
          try rw [← HWD.out]
          try rw [hbz]
          go_wp2_with fail
          go_ret
          exact ⟨rfl, sD.base⟩
        · have hq' : ¬ (q : Int) < 256 := by omega
          go_upto_region 10 with fail
          obtain ⟨wB, hwn⟩ : ∃ u, u = wA := ⟨_, rfl⟩
          rw [← hwn] at jxA jyA jsA j1A j2A
          rw [← hwn]
          have jxB := jxA
          have jyB := jyA
          have jsB := jsA
          have j1B := j1A
          have j2B := j2A
          clear jxA jyA jsA j1A j2A hwn
          have hcall := pick_s HS.out jsB (by omega) ⟨b1, 0, none⟩ ⟨b2, 0, none⟩ k1 k2 (SuperPlain.flip (sbytes ⟨xe, xr, xf, xp⟩) p) (sbytes ⟨ye, yr, yf, yp⟩) (j1B.rowX (by omega)) (j2B.rowX (by omega)) (by first | exact sbytes_len _ | (rw [flip_len]; exact sbytes_len _)) (by first | exact sbytes_len _ | (rw [flip_len]; exact sbytes_len _)) hc1 hc2
          rw [pick_second HOX.out HOY.out HPY.out hp, show ansOf (Sum.inr ⟨ye, yr, yf, yp⟩) = .tuple #[.agg #[.int .i64 ye, .int .i64 yr, .int .i64 yf, .int .i64 yp], .int .i64 0] from rfl] at hcall
          go_wp2_with fail
          (with_reducible refine hcall.mono ?_)
          clear hcall
          rintro e wC ⟨rfl, sC, oC⟩
          have xC := jxB.only oC (by omega)
          have yC := jyB.only oC (by omega)
          clear jxB jyB jsB oC j1B j2B
          obtain ⟨wD, hwD⟩ : ∃ u, u = wC.alloc (.cells #[.int .i64 ye, .int .i64 yr, .int .i64 yf, .int .i64 yp] 23) := ⟨_, rfl⟩
          have hbD : Below wC.heap.size wC wD := by rw [hwD]; exact al' _ _
          have xD := xC.below hbD
          have yD := yC.below hbD
          have sD := sC.below hbD
          have zD : Bs wD wC.heap.size ⟨ye, yr, yf, yp⟩ := by rw [hwD]; exact bs_new wC ⟨ye, yr, yf, yp⟩
          have HWD := Lib.hid hwD
          clear xC yC sC hbD hwD
          generalize hbz : wC.heap.size = bz at *
          obtain ⟨x0, x1, x2, x3⟩ := xD.cells
          obtain ⟨y0, y1, y2, y3⟩ := yD.cells
          obtain ⟨z0, z1, z2, z3⟩ := zD.cells
          go_upto_region 11 with fail
          try rw [← HWD.out]
          try rw [hbz]
          go_wp2_with fail
          go_ret
          exact ⟨rfl, sD.base⟩
      · have hp' : ¬ (p : Int) < 256 := by omega
        go_upto_region 8 with fail
        obtain ⟨wA, hwn⟩ : ∃ u, u = w := ⟨_, rfl⟩
        rw [← hwn] at jx jy js j1 j2
        rw [← hwn]
        have jxA := jx
        have jyA := jy
        have jsA := js
        have j1A := j1
        have j2A := j2
        clear jx jy js j1 j2 hwn
        by_cases hq : q < 256
        · have hq' : (q : Int) < 256 := by omega
          have ec := j2A.cell q (by rw [sbytes_len]; exact hq)
          have ef := j2A.frozen q (by rw [sbytes_len]; exact hq)
          obtain ⟨v, hv⟩ : ∃ v, (sbytes ⟨ye, yr, yf, yp⟩)[q]? = some v := ⟨_, List.getElem?_eq_getElem (by rw [sbytes_len]; exact hq)⟩
          have ej := j2A.set q (by rw [sbytes_len]; exact hq) (v ^^^ 1)
          have ee : (sbytes ⟨ye, yr, yf, yp⟩).set q (v ^^^ 1) = SuperPlain.flip (sbytes ⟨ye, yr, yf, yp⟩) q := by
            unfold SuperPlain.flip
            rw [hv, Option.getD_some]
          rw [ee] at ej
          have ev : (sbytes ⟨ye, yr, yf, yp⟩)[q]'(by rw [sbytes_len]; exact hq) = v := by
            rw [List.getElem?_eq_getElem (by rw [sbytes_len]; exact hq)] at hv
            exact Option.some.inj hv
          rw [ev] at ec
          clear ee ev hv
          have ex : bits .xor .u8 (v.toNat : Int) 1 = ((v ^^^ 1).toNat : Int) := SumTurn.xor_pow v 0 (by omega)
          generalize v ^^^ 1 = u at ej ex
          go_upto_region 10 with fail
          clear ec ef ex
          obtain ⟨wB, hwn⟩ : ∃ x, x = wA.setCell ⟨b2, q, none⟩ (.int .u8 (u.toNat : Int)) := ⟨_, rfl⟩
          try rw [← hwn] at ej
          try rw [← hwn]
          have jxB : Bs wB bx ⟨xe, xr, xf, xp⟩ := by rw [hwn]; exact jxA.far (by show bx ≠ b2; omega) _
          have jyB : Bs wB y ⟨ye, yr, yf, yp⟩ := by rw [hwn]; exact jyA.far (by show y ≠ b2; omega) _
          have jsB : Sg W g 0 wB := by rw [hwn]; exact jsA.far (by show g ≠ b2; omega) (by show W.heap.size ≤ b2; omega) _
          have j1B := j1A.far (p := ⟨b2, q, none⟩) (by show b1 ≠ b2; omega) (.int .u8 (u.toNat : Int))
          rw [← hwn] at j1B
          have j2B := ej
          clear ej jxA jyA jsA j2A j1A hwn
          have hcall := pick_s HS.out jsB (by omega) ⟨b1, 0, none⟩ ⟨b2, 0, none⟩ k1 k2 (sbytes ⟨xe, xr, xf, xp⟩) (SuperPlain.flip (sbytes ⟨ye, yr, yf, yp⟩) q) (j1B.rowX (by omega)) (j2B.rowX (by omega)) (by first | exact sbytes_len _ | (rw [flip_len]; exact sbytes_len _)) (by first | exact sbytes_len _ | (rw [flip_len]; exact sbytes_len _)) hc1 hc2
          rw [pick_first HOX.out HOY.out HPX.out hq, show ansOf (Sum.inr ⟨xe, xr, xf, xp⟩) = .tuple #[.agg #[.int .i64 xe, .int .i64 xr, .int .i64 xf, .int .i64 xp], .int .i64 0] from rfl] at hcall
          go_wp2_with fail
          (with_reducible refine hcall.mono ?_)
          clear hcall
          rintro e wC ⟨rfl, sC, oC⟩
          have xC := jxB.only oC (by omega)
          have yC := jyB.only oC (by omega)
          clear jxB jyB jsB oC j1B j2B
          obtain ⟨wD, hwD⟩ : ∃ u, u = wC.alloc (.cells #[.int .i64 xe, .int .i64 xr, .int .i64 xf, .int .i64 xp] 23) := ⟨_, rfl⟩
          have hbD : Below wC.heap.size wC wD := by rw [hwD]; exact al' _ _
          have xD := xC.below hbD
          have yD := yC.below hbD
          have sD := sC.below hbD
          have zD : Bs wD wC.heap.size ⟨xe, xr, xf, xp⟩ := by rw [hwD]; exact bs_new wC ⟨xe, xr, xf, xp⟩
          have HWD := Lib.hid hwD
          clear xC yC sC hbD hwD
          generalize hbz : wC.heap.size = bz at *
          obtain ⟨x0, x1, x2, x3⟩ := xD.cells
          obtain ⟨y0, y1, y2, y3⟩ := yD.cells
          obtain ⟨z0, z1, z2, z3⟩ := zD.cells
          go_upto_region 11 with fail
          try rw [← HWD.out]
          try rw [hbz]
          go_wp2_with fail
          go_ret
          exact ⟨rfl, sD.base⟩
        · have hq' : ¬ (q : Int) < 256 := by omega
          go_upto_region 10 with fail
          obtain ⟨wB, hwn⟩ : ∃ u, u = wA := ⟨_, rfl⟩
          rw [← hwn] at jxA jyA jsA j1A j2A
          rw [← hwn]
          have jxB := jxA
          have jyB := jyA
          have jsB := jsA
          have j1B := j1A
          have j2B := j2A
          clear jxA jyA jsA j1A j2A hwn
          by_cases hgt : ye < xe
          · have HGT := Lib.hid hgt
            have hcall := pick_s HS.out jsB (by omega) ⟨b1, 0, none⟩ ⟨b2, 0, none⟩ k1 k2 (sbytes ⟨xe, xr, xf, xp⟩) (sbytes ⟨ye, yr, yf, yp⟩) (j1B.rowX (by omega)) (j2B.rowX (by omega)) (by first | exact sbytes_len _ | (rw [flip_len]; exact sbytes_len _)) (by first | exact sbytes_len _ | (rw [flip_len]; exact sbytes_len _)) hc1 hc2
            rw [pick_two HOX.out HOY.out HPX.out HPY.out, show (if (⟨ye, yr, yf, yp⟩ : Sp).ep < (⟨xe, xr, xf, xp⟩ : Sp).ep then (⟨xe, xr, xf, xp⟩ : Sp) else ⟨ye, yr, yf, yp⟩) = ⟨xe, xr, xf, xp⟩ from if_pos hgt, show ansOf (Sum.inr ⟨xe, xr, xf, xp⟩) = .tuple #[.agg #[.int .i64 xe, .int .i64 xr, .int .i64 xf, .int .i64 xp], .int .i64 0] from rfl] at hcall
            go_wp2_with fail
            (with_reducible refine hcall.mono ?_)
            clear hcall
            rintro e wC ⟨rfl, sC, oC⟩
            have xC := jxB.only oC (by omega)
            have yC := jyB.only oC (by omega)
            clear jxB jyB jsB oC j1B j2B
            obtain ⟨wD, hwD⟩ : ∃ u, u = wC.alloc (.cells #[.int .i64 xe, .int .i64 xr, .int .i64 xf, .int .i64 xp] 23) := ⟨_, rfl⟩
            have hbD : Below wC.heap.size wC wD := by rw [hwD]; exact al' _ _
            have xD := xC.below hbD
            have yD := yC.below hbD
            have sD := sC.below hbD
            have zD : Bs wD wC.heap.size ⟨xe, xr, xf, xp⟩ := by rw [hwD]; exact bs_new wC ⟨xe, xr, xf, xp⟩
            have HWD := Lib.hid hwD
            clear xC yC sC hbD hwD
            generalize hbz : wC.heap.size = bz at *
            go_upto_region 17 with fail
            try rw [← HWD.out]
            try rw [hbz]
            have hJ0 := (show JM W bx y bz ⟨xe, xr, xf, xp⟩ ⟨ye, yr, yf, yp⟩ ⟨xe, xr, xf, xp⟩ wD from ⟨xD, yD, zD, sD.base⟩).below (Below.refl _ _).drew
            clear xD yD zD sD HWD HS
            refine wp_region_any (by kernel_rfl) ?_
            change wpAny _ _ _ _ _ _ _ (World.drew _)
            refine Inv.inv_any (fun (i : Nat) (v : Value) (w : World) => match i with | 0 => v = .int .i64 0 | 1 => v = .bool true | 2 => v = .bool true | 3 => v = .agg #[.int .i64 xe, .int .i64 xr, .int .i64 xf, .int .i64 xp] | 4 => v = .agg #[.int .i64 xe, .int .i64 xr, .int .i64 xf, .int .i64 xp] | 5 => v = .bool true | 6 => v = .pointer (some ⟨bx, 0, none⟩) | 7 => v = .int .i64 xe | 8 => v = .pointer (some ⟨y, 0, none⟩) | 9 => v = .int .i64 ye | 10 => v = .bool true | 11 => v = .bool true | 12 => v = .bool true | 13 => v = .bool true | 14 => v = .agg #[.int .i64 xe, .int .i64 xr, .int .i64 xf, .int .i64 xp] | 15 => v = .agg #[.int .i64 xe, .int .i64 xr, .int .i64 xf, .int .i64 xp] | 16 => v = .bool true | 17 => v = .bool true | 18 => v = undef | 19 => v = undef | 20 => v = undef | 21 => v = .bool true | 22 => v = .bool true | _ => True) (fun w' : World => JM W bx y bz ⟨xe, xr, xf, xp⟩ ⟨ye, yr, yf, yp⟩ ⟨xe, xr, xf, xp⟩ w') _ 23 142 rfl rfl rfl (by kernel_rfl) (by kernel_rfl) hJ0 ?_ ?_ ?_ ?_
            · intro j v w w' h hb
              match j, h with
              | 0, h => exact h
              | 1, h => exact h
              | 2, h => exact h
              | 3, h => exact h
              | 4, h => exact h
              | 5, h => exact h
              | 6, h => exact h
              | 7, h => exact h
              | 8, h => exact h
              | 9, h => exact h
              | 10, h => exact h
              | 11, h => exact h
              | 12, h => exact h
              | 13, h => exact h
              | 14, h => exact h
              | 15, h => exact h
              | 16, h => exact h
              | 17, h => exact h
              | 18, h => exact h
              | 19, h => exact h
              | 20, h => exact h
              | 21, h => exact h
              | 22, h => exact h
              | 23, _ => exact trivial
              | (_ + 24), _ => exact trivial
            · skip
              refine Inv.from_cons _ _ _ _ rfl (fun _ a w hJ hF F K hK => ?_) ?_
              · have hz : a.tmps.size = 142 := hF.size
                have e13 : a.tmps[13]? = some (.int .i64 0) := Inv2.some_slot (by rw [hz]; exact Nat.le_of_ble_eq_true rfl) (hF.slot 13 (by kernel_rfl))
                clear F hF hz
                have hJ1 := hJ
                obtain ⟨jx, jy, jv, jb⟩ := hJ1
                go_simp
                exact hK (.int .i64 0) _ hJ (Below.refl _ _) rfl
              refine Inv.from_cons _ _ _ _ rfl (fun _ a w hJ hF F K hK => ?_) ?_
              · have hz : a.tmps.size = 142 := hF.size
                have e119 : a.tmps[119]? = some (.int .i64 0) := Inv2.some_slot (by rw [hz]; exact Nat.le_of_ble_eq_true rfl) (F 0 (by kernel_rfl) 119 rfl)
                clear F hF hz
                have hJ1 := hJ
                obtain ⟨jx, jy, jv, jb⟩ := hJ1
                go_simp
                exact hK (.bool true) _ hJ (Below.refl _ _) rfl
              refine Inv.from_cons _ _ _ _ rfl (fun _ a w hJ hF F K hK => ?_) ?_
              · have hz : a.tmps.size = 142 := hF.size
                have e120 : a.tmps[120]? = some (.bool true) := Inv2.some_slot (by rw [hz]; exact Nat.le_of_ble_eq_true rfl) (F 1 (by kernel_rfl) 120 rfl)
                clear F hF hz
                have hJ1 := hJ
                obtain ⟨jx, jy, jv, jb⟩ := hJ1
                go_simp
                exact hK (.bool true) _ hJ (Below.refl _ _) rfl
              refine Inv.from_cons _ _ _ _ rfl (fun _ a w hJ hF F K hK => ?_) ?_
              · have hz : a.tmps.size = 142 := hF.size
                have e12 : a.tmps[12]? = some (.pointer (some ⟨bz, 0, none⟩)) := Inv2.some_slot (by rw [hz]; exact Nat.le_of_ble_eq_true rfl) (hF.slot 12 (by kernel_rfl))
                have e121 : a.tmps[121]? = some (.bool true) := Inv2.some_slot (by rw [hz]; exact Nat.le_of_ble_eq_true rfl) (F 2 (by kernel_rfl) 121 rfl)
                clear F hF hz
                have hJ1 := hJ
                obtain ⟨jx, jy, jv, jb⟩ := hJ1
                obtain ⟨c0, c1, c2, c3⟩ := jv.cells
                go_simp
                exact hK (.agg #[.int .i64 xe, .int .i64 xr, .int .i64 xf, .int .i64 xp]) _ hJ (Below.refl _ _) rfl
              refine Inv.from_cons _ _ _ _ rfl (fun _ a w hJ hF F K hK => ?_) ?_
              · have hz : a.tmps.size = 142 := hF.size
                have e3 : a.tmps[3]? = some (.pointer (some ⟨bx, 0, none⟩)) := Inv2.some_slot (by rw [hz]; exact Nat.le_of_ble_eq_true rfl) (hF.slot 3 (by kernel_rfl))
                have e121 : a.tmps[121]? = some (.bool true) := Inv2.some_slot (by rw [hz]; exact Nat.le_of_ble_eq_true rfl) (F 2 (by kernel_rfl) 121 rfl)
                clear F hF hz
                have hJ1 := hJ
                obtain ⟨jx, jy, jv, jb⟩ := hJ1
                obtain ⟨c0, c1, c2, c3⟩ := jx.cells
                go_simp
                exact hK (.agg #[.int .i64 xe, .int .i64 xr, .int .i64 xf, .int .i64 xp]) _ hJ (Below.refl _ _) rfl
              refine Inv.from_cons _ _ _ _ rfl (fun _ a w hJ hF F K hK => ?_) ?_
              · have hz : a.tmps.size = 142 := hF.size
                have e121 : a.tmps[121]? = some (.bool true) := Inv2.some_slot (by rw [hz]; exact Nat.le_of_ble_eq_true rfl) (F 2 (by kernel_rfl) 121 rfl)
                have e122 : a.tmps[122]? = some (.agg #[.int .i64 xe, .int .i64 xr, .int .i64 xf, .int .i64 xp]) := Inv2.some_slot (by rw [hz]; exact Nat.le_of_ble_eq_true rfl) (F 3 (by kernel_rfl) 122 rfl)
                have e123 : a.tmps[123]? = some (.agg #[.int .i64 xe, .int .i64 xr, .int .i64 xf, .int .i64 xp]) := Inv2.some_slot (by rw [hz]; exact Nat.le_of_ble_eq_true rfl) (F 4 (by kernel_rfl) 123 rfl)
                clear F hF hz
                have hJ1 := hJ
                obtain ⟨jx, jy, jv, jb⟩ := hJ1
                go_simp
                exact hK (.bool true) _ hJ (Below.refl _ _) rfl
              refine Inv.from_cons _ _ _ _ rfl (fun _ a w hJ hF F K hK => ?_) ?_
              · have hz : a.tmps.size = 142 := hF.size
                have e3 : a.tmps[3]? = some (.pointer (some ⟨bx, 0, none⟩)) := Inv2.some_slot (by rw [hz]; exact Nat.le_of_ble_eq_true rfl) (hF.slot 3 (by kernel_rfl))
                have e121 : a.tmps[121]? = some (.bool true) := Inv2.some_slot (by rw [hz]; exact Nat.le_of_ble_eq_true rfl) (F 2 (by kernel_rfl) 121 rfl)
                clear F hF hz
                have hJ1 := hJ
                obtain ⟨jx, jy, jv, jb⟩ := hJ1
                go_simp
                exact hK (.pointer (some ⟨bx, 0, none⟩)) _ hJ (Below.refl _ _) rfl
              refine Inv.from_cons _ _ _ _ rfl (fun _ a w hJ hF F K hK => ?_) ?_
              · have hz : a.tmps.size = 142 := hF.size
                have e121 : a.tmps[121]? = some (.bool true) := Inv2.some_slot (by rw [hz]; exact Nat.le_of_ble_eq_true rfl) (F 2 (by kernel_rfl) 121 rfl)
                have e125 : a.tmps[125]? = some (.pointer (some ⟨bx, 0, none⟩)) := Inv2.some_slot (by rw [hz]; exact Nat.le_of_ble_eq_true rfl) (F 6 (by kernel_rfl) 125 rfl)
                clear F hF hz
                have hJ1 := hJ
                obtain ⟨jx, jy, jv, jb⟩ := hJ1
                obtain ⟨c0, c1, c2, c3⟩ := jx.cells
                go_simp
                exact hK (.int .i64 xe) _ hJ (Below.refl _ _) rfl
              refine Inv.from_cons _ _ _ _ rfl (fun _ a w hJ hF F K hK => ?_) ?_
              · have hz : a.tmps.size = 142 := hF.size
                have e4 : a.tmps[4]? = some (.pointer (some ⟨y, 0, none⟩)) := Inv2.some_slot (by rw [hz]; exact Nat.le_of_ble_eq_true rfl) (hF.slot 4 (by kernel_rfl))
                have e121 : a.tmps[121]? = some (.bool true) := Inv2.some_slot (by rw [hz]; exact Nat.le_of_ble_eq_true rfl) (F 2 (by kernel_rfl) 121 rfl)
                clear F hF hz
                have hJ1 := hJ
                obtain ⟨jx, jy, jv, jb⟩ := hJ1
                go_simp
                exact hK (.pointer (some ⟨y, 0, none⟩)) _ hJ (Below.refl _ _) rfl
              refine Inv.from_cons _ _ _ _ rfl (fun _ a w hJ hF F K hK => ?_) ?_
              · have hz : a.tmps.size = 142 := hF.size
                have e121 : a.tmps[121]? = some (.bool true) := Inv2.some_slot (by rw [hz]; exact Nat.le_of_ble_eq_true rfl) (F 2 (by kernel_rfl) 121 rfl)
                have e127 : a.tmps[127]? = some (.pointer (some ⟨y, 0, none⟩)) := Inv2.some_slot (by rw [hz]; exact Nat.le_of_ble_eq_true rfl) (F 8 (by kernel_rfl) 127 rfl)
                clear F hF hz
                have hJ1 := hJ
                obtain ⟨jx, jy, jv, jb⟩ := hJ1
                obtain ⟨c0, c1, c2, c3⟩ := jy.cells
                go_simp
                exact hK (.int .i64 ye) _ hJ (Below.refl _ _) rfl
              refine Inv.from_cons _ _ _ _ rfl (fun _ a w hJ hF F K hK => ?_) ?_
              · have hz : a.tmps.size = 142 := hF.size
                have e121 : a.tmps[121]? = some (.bool true) := Inv2.some_slot (by rw [hz]; exact Nat.le_of_ble_eq_true rfl) (F 2 (by kernel_rfl) 121 rfl)
                have e126 : a.tmps[126]? = some (.int .i64 xe) := Inv2.some_slot (by rw [hz]; exact Nat.le_of_ble_eq_true rfl) (F 7 (by kernel_rfl) 126 rfl)
                have e128 : a.tmps[128]? = some (.int .i64 ye) := Inv2.some_slot (by rw [hz]; exact Nat.le_of_ble_eq_true rfl) (F 9 (by kernel_rfl) 128 rfl)
                clear F hF hz
                have hJ1 := hJ
                obtain ⟨jx, jy, jv, jb⟩ := hJ1
                have hgt := HGT.out
                go_simp
                exact hK (.bool true) _ hJ (Below.refl _ _) rfl
              refine Inv.from_cons _ _ _ _ rfl (fun _ a w hJ hF F K hK => ?_) ?_
              · have hz : a.tmps.size = 142 := hF.size
                have e121 : a.tmps[121]? = some (.bool true) := Inv2.some_slot (by rw [hz]; exact Nat.le_of_ble_eq_true rfl) (F 2 (by kernel_rfl) 121 rfl)
                have e124 : a.tmps[124]? = some (.bool true) := Inv2.some_slot (by rw [hz]; exact Nat.le_of_ble_eq_true rfl) (F 5 (by kernel_rfl) 124 rfl)
                have e129 : a.tmps[129]? = some (.bool true) := Inv2.some_slot (by rw [hz]; exact Nat.le_of_ble_eq_true rfl) (F 10 (by kernel_rfl) 129 rfl)
                clear F hF hz
                have hJ1 := hJ
                obtain ⟨jx, jy, jv, jb⟩ := hJ1
                go_simp
                exact hK (.bool true) _ hJ (Below.refl _ _) rfl
              refine Inv.from_cons _ _ _ _ rfl (fun _ a w hJ hF F K hK => ?_) ?_
              · have hz : a.tmps.size = 142 := hF.size
                have e121 : a.tmps[121]? = some (.bool true) := Inv2.some_slot (by rw [hz]; exact Nat.le_of_ble_eq_true rfl) (F 2 (by kernel_rfl) 121 rfl)
                have e130 : a.tmps[130]? = some (.bool true) := Inv2.some_slot (by rw [hz]; exact Nat.le_of_ble_eq_true rfl) (F 11 (by kernel_rfl) 130 rfl)
                clear F hF hz
                have hJ1 := hJ
                obtain ⟨jx, jy, jv, jb⟩ := hJ1
                go_simp
                exact hK (.bool true) _ hJ (Below.refl _ _) rfl
              refine Inv.from_cons _ _ _ _ rfl (fun _ a w hJ hF F K hK => ?_) ?_
              · have hz : a.tmps.size = 142 := hF.size
                have e121 : a.tmps[121]? = some (.bool true) := Inv2.some_slot (by rw [hz]; exact Nat.le_of_ble_eq_true rfl) (F 2 (by kernel_rfl) 121 rfl)
                have e131 : a.tmps[131]? = some (.bool true) := Inv2.some_slot (by rw [hz]; exact Nat.le_of_ble_eq_true rfl) (F 12 (by kernel_rfl) 131 rfl)
                clear F hF hz
                have hJ1 := hJ
                obtain ⟨jx, jy, jv, jb⟩ := hJ1
                go_simp
                exact hK (.bool true) _ hJ (Below.refl _ _) rfl
              refine Inv.from_cons _ _ _ _ rfl (fun _ a w hJ hF F K hK => ?_) ?_
              · have hz : a.tmps.size = 142 := hF.size
                have e12 : a.tmps[12]? = some (.pointer (some ⟨bz, 0, none⟩)) := Inv2.some_slot (by rw [hz]; exact Nat.le_of_ble_eq_true rfl) (hF.slot 12 (by kernel_rfl))
                have e132 : a.tmps[132]? = some (.bool true) := Inv2.some_slot (by rw [hz]; exact Nat.le_of_ble_eq_true rfl) (F 13 (by kernel_rfl) 132 rfl)
                clear F hF hz
                have hJ1 := hJ
                obtain ⟨jx, jy, jv, jb⟩ := hJ1
                obtain ⟨c0, c1, c2, c3⟩ := jv.cells
                go_simp
                exact hK (.agg #[.int .i64 xe, .int .i64 xr, .int .i64 xf, .int .i64 xp]) _ hJ (Below.refl _ _) rfl
              refine Inv.from_cons _ _ _ _ rfl (fun _ a w hJ hF F K hK => ?_) ?_
              · have hz : a.tmps.size = 142 := hF.size
                have e3 : a.tmps[3]? = some (.pointer (some ⟨bx, 0, none⟩)) := Inv2.some_slot (by rw [hz]; exact Nat.le_of_ble_eq_true rfl) (hF.slot 3 (by kernel_rfl))
                have e132 : a.tmps[132]? = some (.bool true) := Inv2.some_slot (by rw [hz]; exact Nat.le_of_ble_eq_true rfl) (F 13 (by kernel_rfl) 132 rfl)
                clear F hF hz
                have hJ1 := hJ
                obtain ⟨jx, jy, jv, jb⟩ := hJ1
                obtain ⟨c0, c1, c2, c3⟩ := jx.cells
                go_simp
                exact hK (.agg #[.int .i64 xe, .int .i64 xr, .int .i64 xf, .int .i64 xp]) _ hJ (Below.refl _ _) rfl
              refine Inv.from_cons _ _ _ _ rfl (fun _ a w hJ hF F K hK => ?_) ?_
              · have hz : a.tmps.size = 142 := hF.size
                have e132 : a.tmps[132]? = some (.bool true) := Inv2.some_slot (by rw [hz]; exact Nat.le_of_ble_eq_true rfl) (F 13 (by kernel_rfl) 132 rfl)
                have e133 : a.tmps[133]? = some (.agg #[.int .i64 xe, .int .i64 xr, .int .i64 xf, .int .i64 xp]) := Inv2.some_slot (by rw [hz]; exact Nat.le_of_ble_eq_true rfl) (F 14 (by kernel_rfl) 133 rfl)
                have e134 : a.tmps[134]? = some (.agg #[.int .i64 xe, .int .i64 xr, .int .i64 xf, .int .i64 xp]) := Inv2.some_slot (by rw [hz]; exact Nat.le_of_ble_eq_true rfl) (F 15 (by kernel_rfl) 134 rfl)
                clear F hF hz
                have hJ1 := hJ
                obtain ⟨jx, jy, jv, jb⟩ := hJ1
                go_simp
                exact hK (.bool true) _ hJ (Below.refl _ _) rfl
              refine Inv.from_cons _ _ _ _ rfl (fun _ a w hJ hF F K hK => ?_) ?_
              · have hz : a.tmps.size = 142 := hF.size
                have e132 : a.tmps[132]? = some (.bool true) := Inv2.some_slot (by rw [hz]; exact Nat.le_of_ble_eq_true rfl) (F 13 (by kernel_rfl) 132 rfl)
                have e135 : a.tmps[135]? = some (.bool true) := Inv2.some_slot (by rw [hz]; exact Nat.le_of_ble_eq_true rfl) (F 16 (by kernel_rfl) 135 rfl)
                clear F hF hz
                have hJ1 := hJ
                obtain ⟨jx, jy, jv, jb⟩ := hJ1
                go_simp
                exact hK (.bool true) _ hJ (Below.refl _ _) rfl
              refine Inv.from_cons _ _ _ _ rfl (fun _ a w hJ hF F K hK => ?_) ?_
              · have hz : a.tmps.size = 142 := hF.size
                have e12 : a.tmps[12]? = some (.pointer (some ⟨bz, 0, none⟩)) := Inv2.some_slot (by rw [hz]; exact Nat.le_of_ble_eq_true rfl) (hF.slot 12 (by kernel_rfl))
                have e136 : a.tmps[136]? = some (.bool true) := Inv2.some_slot (by rw [hz]; exact Nat.le_of_ble_eq_true rfl) (F 17 (by kernel_rfl) 136 rfl)
                clear F hF hz
                have hJ1 := hJ
                obtain ⟨jx, jy, jv, jb⟩ := hJ1
                go_simp
                exact hK (undef) _ hJ (Below.refl _ _) rfl
              refine Inv.from_cons _ _ _ _ rfl (fun _ a w hJ hF F K hK => ?_) ?_
              · have hz : a.tmps.size = 142 := hF.size
                have e4 : a.tmps[4]? = some (.pointer (some ⟨y, 0, none⟩)) := Inv2.some_slot (by rw [hz]; exact Nat.le_of_ble_eq_true rfl) (hF.slot 4 (by kernel_rfl))
                have e136 : a.tmps[136]? = some (.bool true) := Inv2.some_slot (by rw [hz]; exact Nat.le_of_ble_eq_true rfl) (F 17 (by kernel_rfl) 136 rfl)
                clear F hF hz
                have hJ1 := hJ
                obtain ⟨jx, jy, jv, jb⟩ := hJ1
                go_simp
                exact hK (undef) _ hJ (Below.refl _ _) rfl
              refine Inv.from_cons _ _ _ _ rfl (fun _ a w hJ hF F K hK => ?_) ?_
              · have hz : a.tmps.size = 142 := hF.size
                have e136 : a.tmps[136]? = some (.bool true) := Inv2.some_slot (by rw [hz]; exact Nat.le_of_ble_eq_true rfl) (F 17 (by kernel_rfl) 136 rfl)
                have e137 : a.tmps[137]? = some (undef) := Inv2.some_slot (by rw [hz]; exact Nat.le_of_ble_eq_true rfl) (F 18 (by kernel_rfl) 137 rfl)
                have e138 : a.tmps[138]? = some (undef) := Inv2.some_slot (by rw [hz]; exact Nat.le_of_ble_eq_true rfl) (F 19 (by kernel_rfl) 138 rfl)
                clear F hF hz
                have hJ1 := hJ
                obtain ⟨jx, jy, jv, jb⟩ := hJ1
                go_simp
                exact hK (undef) _ hJ (Below.refl _ _) rfl
              refine Inv.from_cons _ _ _ _ rfl (fun _ a w hJ hF F K hK => ?_) ?_
              · have hz : a.tmps.size = 142 := hF.size
                have e132 : a.tmps[132]? = some (.bool true) := Inv2.some_slot (by rw [hz]; exact Nat.le_of_ble_eq_true rfl) (F 13 (by kernel_rfl) 132 rfl)
                have e136 : a.tmps[136]? = some (.bool true) := Inv2.some_slot (by rw [hz]; exact Nat.le_of_ble_eq_true rfl) (F 17 (by kernel_rfl) 136 rfl)
                have e139 : a.tmps[139]? = some (undef) := Inv2.some_slot (by rw [hz]; exact Nat.le_of_ble_eq_true rfl) (F 20 (by kernel_rfl) 139 rfl)
                clear F hF hz
                have hJ1 := hJ
                obtain ⟨jx, jy, jv, jb⟩ := hJ1
                go_simp
                exact hK (.bool true) _ hJ (Below.refl _ _) rfl
              refine Inv.from_cons _ _ _ _ rfl (fun _ a w hJ hF F K hK => ?_) ?_
              · have hz : a.tmps.size = 142 := hF.size
                have e132 : a.tmps[132]? = some (.bool true) := Inv2.some_slot (by rw [hz]; exact Nat.le_of_ble_eq_true rfl) (F 13 (by kernel_rfl) 132 rfl)
                have e140 : a.tmps[140]? = some (.bool true) := Inv2.some_slot (by rw [hz]; exact Nat.le_of_ble_eq_true rfl) (F 21 (by kernel_rfl) 140 rfl)
                clear F hF hz
                have hJ1 := hJ
                obtain ⟨jx, jy, jv, jb⟩ := hJ1
                go_simp
                exact hK (.bool true) _ hJ (Below.refl _ _) rfl
              refine Inv.from_skip _ _ _ _ rfl ?_
              exact Inv.from_end _ _ _ _ (by decide +kernel)
            · intro o ho a w hJ hF F K hK
              injection (show some _ = some o from ho) with ho
              subst ho
              obtain ⟨f, hf⟩ : ∃ f : Nat → Value, ∀ i, a.tmps.getD i undef = f i := ⟨_, fun _ => rfl⟩
              have g3 : f 3 = (.pointer (some ⟨bx, 0, none⟩)) := (hf 3).symm.trans (hF.slot 3 (by kernel_rfl))
              have g4 : f 4 = (.pointer (some ⟨y, 0, none⟩)) := (hf 4).symm.trans (hF.slot 4 (by kernel_rfl))
              have g12 : f 12 = (.pointer (some ⟨bz, 0, none⟩)) := (hf 12).symm.trans (hF.slot 12 (by kernel_rfl))
              have g13 : f 13 = (.int .i64 0) := (hf 13).symm.trans (hF.slot 13 (by kernel_rfl))
              have g119 : f 119 = (.int .i64 0) := (hf 119).symm.trans (F 0 (by decide) 119 rfl)
              have g120 : f 120 = (.bool true) := (hf 120).symm.trans (F 1 (by decide) 120 rfl)
              have g121 : f 121 = (.bool true) := (hf 121).symm.trans (F 2 (by decide) 121 rfl)
              have g122 : f 122 = (.agg #[.int .i64 xe, .int .i64 xr, .int .i64 xf, .int .i64 xp]) := (hf 122).symm.trans (F 3 (by decide) 122 rfl)
              have g123 : f 123 = (.agg #[.int .i64 xe, .int .i64 xr, .int .i64 xf, .int .i64 xp]) := (hf 123).symm.trans (F 4 (by decide) 123 rfl)
              have g124 : f 124 = (.bool true) := (hf 124).symm.trans (F 5 (by decide) 124 rfl)
              have g125 : f 125 = (.pointer (some ⟨bx, 0, none⟩)) := (hf 125).symm.trans (F 6 (by decide) 125 rfl)
              have g126 : f 126 = (.int .i64 xe) := (hf 126).symm.trans (F 7 (by decide) 126 rfl)
              have g127 : f 127 = (.pointer (some ⟨y, 0, none⟩)) := (hf 127).symm.trans (F 8 (by decide) 127 rfl)
              have g128 : f 128 = (.int .i64 ye) := (hf 128).symm.trans (F 9 (by decide) 128 rfl)
              have g129 : f 129 = (.bool true) := (hf 129).symm.trans (F 10 (by decide) 129 rfl)
              have g130 : f 130 = (.bool true) := (hf 130).symm.trans (F 11 (by decide) 130 rfl)
              have g131 : f 131 = (.bool true) := (hf 131).symm.trans (F 12 (by decide) 131 rfl)
              have g132 : f 132 = (.bool true) := (hf 132).symm.trans (F 13 (by decide) 132 rfl)
              have g133 : f 133 = (.agg #[.int .i64 xe, .int .i64 xr, .int .i64 xf, .int .i64 xp]) := (hf 133).symm.trans (F 14 (by decide) 133 rfl)
              have g134 : f 134 = (.agg #[.int .i64 xe, .int .i64 xr, .int .i64 xf, .int .i64 xp]) := (hf 134).symm.trans (F 15 (by decide) 134 rfl)
              have g135 : f 135 = (.bool true) := (hf 135).symm.trans (F 16 (by decide) 135 rfl)
              have g136 : f 136 = (.bool true) := (hf 136).symm.trans (F 17 (by decide) 136 rfl)
              have g137 : f 137 = (undef) := (hf 137).symm.trans (F 18 (by decide) 137 rfl)
              have g138 : f 138 = (undef) := (hf 138).symm.trans (F 19 (by decide) 138 rfl)
              have g139 : f 139 = (undef) := (hf 139).symm.trans (F 20 (by decide) 139 rfl)
              have g140 : f 140 = (.bool true) := (hf 140).symm.trans (F 21 (by decide) 140 rfl)
              have g141 : f 141 = (.bool true) := (hf 141).symm.trans (F 22 (by decide) 141 rfl)
              have ha := Frames.frame (show a.tmps.size = 142 from hF.size) hF.defers hf (l := [f 0, f 1, f 2, f 3, f 4, f 5, f 6, f 7, f 8, f 9, f 10, f 11, f 12, f 13, f 14, f 15, f 16, f 17, f 18, f 19, f 20, f 21, f 22, f 23, f 24, f 25, f 26, f 27, f 28, f 29, f 30, f 31, f 32, f 33, f 34, f 35, f 36, f 37, f 38, f 39, f 40, f 41, f 42, f 43, f 44, f 45, f 46, f 47, f 48, f 49, f 50, f 51, f 52, f 53, f 54, f 55, f 56, f 57, f 58, f 59, f 60, f 61, f 62, f 63, f 64, f 65, f 66, f 67, f 68, f 69, f 70, f 71, f 72, f 73, f 74, f 75, f 76, f 77, f 78, f 79, f 80, f 81, f 82, f 83, f 84, f 85, f 86, f 87, f 88, f 89, f 90, f 91, f 92, f 93, f 94, f 95, f 96, f 97, f 98, f 99, f 100, f 101, f 102, f 103, f 104, f 105, f 106, f 107, f 108, f 109, f 110, f 111, f 112, f 113, f 114, f 115, f 116, f 117, f 118, f 119, f 120, f 121, f 122, f 123, f 124, f 125, f 126, f 127, f 128, f 129, f 130, f 131, f 132, f 133, f 134, f 135, f 136, f 137, f 138, f 139, f 140, f 141]) rfl
              simp only [g3, g4, g12, g13, g119, g120, g121, g122, g123, g124, g125, g126, g127, g128, g129, g130, g131, g132, g133, g134, g135, g136, g137, g138, g139, g140, g141] at ha
              clear F hF hf g3 g4 g12 g13 g119 g120 g121 g122 g123 g124 g125 g126 g127 g128 g129 g130 g131 g132 g133 g134 g135 g136 g137 g138 g139 g140 g141
              subst ha
              have hJ1 := hJ
              obtain ⟨jx, jy, jv, jb⟩ := hJ1
              have HB := Lib.hid jb
              clear hJ jx jy jv jb
              go_simp
              refine hK _ _ ?_
              clear hK
              go_wp2_with fail
              go_ret
              exact ⟨rfl, HB.out⟩
            · intro hq; exact absurd hq (by decide +kernel)
          · have HGT := Lib.hid hgt
            have HNQ := Lib.hid (show ¬ ye = xe from fun q => hne q.symm)
            have hcall := pick_s HS.out jsB (by omega) ⟨b1, 0, none⟩ ⟨b2, 0, none⟩ k1 k2 (sbytes ⟨xe, xr, xf, xp⟩) (sbytes ⟨ye, yr, yf, yp⟩) (j1B.rowX (by omega)) (j2B.rowX (by omega)) (by first | exact sbytes_len _ | (rw [flip_len]; exact sbytes_len _)) (by first | exact sbytes_len _ | (rw [flip_len]; exact sbytes_len _)) hc1 hc2
            rw [pick_two HOX.out HOY.out HPX.out HPY.out, show (if (⟨ye, yr, yf, yp⟩ : Sp).ep < (⟨xe, xr, xf, xp⟩ : Sp).ep then (⟨xe, xr, xf, xp⟩ : Sp) else ⟨ye, yr, yf, yp⟩) = ⟨ye, yr, yf, yp⟩ from if_neg hgt, show ansOf (Sum.inr ⟨ye, yr, yf, yp⟩) = .tuple #[.agg #[.int .i64 ye, .int .i64 yr, .int .i64 yf, .int .i64 yp], .int .i64 0] from rfl] at hcall
            go_wp2_with fail
            (with_reducible refine hcall.mono ?_)
            clear hcall
            rintro e wC ⟨rfl, sC, oC⟩
            have xC := jxB.only oC (by omega)
            have yC := jyB.only oC (by omega)
            clear jxB jyB jsB oC j1B j2B
            obtain ⟨wD, hwD⟩ : ∃ u, u = wC.alloc (.cells #[.int .i64 ye, .int .i64 yr, .int .i64 yf, .int .i64 yp] 23) := ⟨_, rfl⟩
            have hbD : Below wC.heap.size wC wD := by rw [hwD]; exact al' _ _
            have xD := xC.below hbD
            have yD := yC.below hbD
            have sD := sC.below hbD
            have zD : Bs wD wC.heap.size ⟨ye, yr, yf, yp⟩ := by rw [hwD]; exact bs_new wC ⟨ye, yr, yf, yp⟩
            have HWD := Lib.hid hwD
            clear xC yC sC hbD hwD
            generalize hbz : wC.heap.size = bz at *
            go_upto_region 17 with fail
            try rw [← HWD.out]
            try rw [hbz]
            have hJ0 := (show JM W bx y bz ⟨xe, xr, xf, xp⟩ ⟨ye, yr, yf, yp⟩ ⟨ye, yr, yf, yp⟩ wD from ⟨xD, yD, zD, sD.base⟩).below (Below.refl _ _).drew
            clear xD yD zD sD HWD HS
            refine wp_region_any (by kernel_rfl) ?_
            change wpAny _ _ _ _ _ _ _ (World.drew _)
            refine Inv.inv_any (fun (i : Nat) (v : Value) (w : World) => match i with | 0 => v = .int .i64 0 | 1 => v = .bool true | 2 => v = .bool true | 3 => v = .agg #[.int .i64 ye, .int .i64 yr, .int .i64 yf, .int .i64 yp] | 4 => v = .agg #[.int .i64 xe, .int .i64 xr, .int .i64 xf, .int .i64 xp] | 5 => v = .bool false | 6 => v = .pointer (some ⟨bx, 0, none⟩) | 7 => v = .int .i64 xe | 8 => v = .pointer (some ⟨y, 0, none⟩) | 9 => v = .int .i64 ye | 10 => v = .bool false | 11 => v = .bool true | 12 => v = .bool true | 13 => v = .bool true | 14 => v = .agg #[.int .i64 ye, .int .i64 yr, .int .i64 yf, .int .i64 yp] | 15 => v = .agg #[.int .i64 xe, .int .i64 xr, .int .i64 xf, .int .i64 xp] | 16 => v = .bool false | 17 => v = .bool false | 18 => v = .agg #[.int .i64 ye, .int .i64 yr, .int .i64 yf, .int .i64 yp] | 19 => v = .agg #[.int .i64 ye, .int .i64 yr, .int .i64 yf, .int .i64 yp] | 20 => v = .bool true | 21 => v = .bool true | 22 => v = .bool true | _ => True) (fun w' : World => JM W bx y bz ⟨xe, xr, xf, xp⟩ ⟨ye, yr, yf, yp⟩ ⟨ye, yr, yf, yp⟩ w') _ 23 142 rfl rfl rfl (by kernel_rfl) (by kernel_rfl) hJ0 ?_ ?_ ?_ ?_
            · intro j v w w' h hb
              match j, h with
              | 0, h => exact h
              | 1, h => exact h
              | 2, h => exact h
              | 3, h => exact h
              | 4, h => exact h
              | 5, h => exact h
              | 6, h => exact h
              | 7, h => exact h
              | 8, h => exact h
              | 9, h => exact h
              | 10, h => exact h
              | 11, h => exact h
              | 12, h => exact h
              | 13, h => exact h
              | 14, h => exact h
              | 15, h => exact h
              | 16, h => exact h
              | 17, h => exact h
              | 18, h => exact h
              | 19, h => exact h
              | 20, h => exact h
              | 21, h => exact h
              | 22, h => exact h
              | 23, _ => exact trivial
              | (_ + 24), _ => exact trivial
            · skip
              refine Inv.from_cons _ _ _ _ rfl (fun _ a w hJ hF F K hK => ?_) ?_
              · have hz : a.tmps.size = 142 := hF.size
                have e13 : a.tmps[13]? = some (.int .i64 0) := Inv2.some_slot (by rw [hz]; exact Nat.le_of_ble_eq_true rfl) (hF.slot 13 (by kernel_rfl))
                clear F hF hz
                have hJ1 := hJ
                obtain ⟨jx, jy, jv, jb⟩ := hJ1
                go_simp
                exact hK (.int .i64 0) _ hJ (Below.refl _ _) rfl
              refine Inv.from_cons _ _ _ _ rfl (fun _ a w hJ hF F K hK => ?_) ?_
              · have hz : a.tmps.size = 142 := hF.size
                have e119 : a.tmps[119]? = some (.int .i64 0) := Inv2.some_slot (by rw [hz]; exact Nat.le_of_ble_eq_true rfl) (F 0 (by kernel_rfl) 119 rfl)
                clear F hF hz
                have hJ1 := hJ
                obtain ⟨jx, jy, jv, jb⟩ := hJ1
                go_simp
                exact hK (.bool true) _ hJ (Below.refl _ _) rfl
              refine Inv.from_cons _ _ _ _ rfl (fun _ a w hJ hF F K hK => ?_) ?_
              · have hz : a.tmps.size = 142 := hF.size
                have e120 : a.tmps[120]? = some (.bool true) := Inv2.some_slot (by rw [hz]; exact Nat.le_of_ble_eq_true rfl) (F 1 (by kernel_rfl) 120 rfl)
                clear F hF hz
                have hJ1 := hJ
                obtain ⟨jx, jy, jv, jb⟩ := hJ1
                go_simp
                exact hK (.bool true) _ hJ (Below.refl _ _) rfl
              refine Inv.from_cons _ _ _ _ rfl (fun _ a w hJ hF F K hK => ?_) ?_
              · have hz : a.tmps.size = 142 := hF.size
                have e12 : a.tmps[12]? = some (.pointer (some ⟨bz, 0, none⟩)) := Inv2.some_slot (by rw [hz]; exact Nat.le_of_ble_eq_true rfl) (hF.slot 12 (by kernel_rfl))
                have e121 : a.tmps[121]? = some (.bool true) := Inv2.some_slot (by rw [hz]; exact Nat.le_of_ble_eq_true rfl) (F 2 (by kernel_rfl) 121 rfl)
                clear F hF hz
                have hJ1 := hJ
                obtain ⟨jx, jy, jv, jb⟩ := hJ1
                obtain ⟨c0, c1, c2, c3⟩ := jv.cells
                go_simp
                exact hK (.agg #[.int .i64 ye, .int .i64 yr, .int .i64 yf, .int .i64 yp]) _ hJ (Below.refl _ _) rfl
              refine Inv.from_cons _ _ _ _ rfl (fun _ a w hJ hF F K hK => ?_) ?_
              · have hz : a.tmps.size = 142 := hF.size
                have e3 : a.tmps[3]? = some (.pointer (some ⟨bx, 0, none⟩)) := Inv2.some_slot (by rw [hz]; exact Nat.le_of_ble_eq_true rfl) (hF.slot 3 (by kernel_rfl))
                have e121 : a.tmps[121]? = some (.bool true) := Inv2.some_slot (by rw [hz]; exact Nat.le_of_ble_eq_true rfl) (F 2 (by kernel_rfl) 121 rfl)
                clear F hF hz
                have hJ1 := hJ
                obtain ⟨jx, jy, jv, jb⟩ := hJ1
                obtain ⟨c0, c1, c2, c3⟩ := jx.cells
                go_simp
                exact hK (.agg #[.int .i64 xe, .int .i64 xr, .int .i64 xf, .int .i64 xp]) _ hJ (Below.refl _ _) rfl
              refine Inv.from_cons _ _ _ _ rfl (fun _ a w hJ hF F K hK => ?_) ?_
              · have hz : a.tmps.size = 142 := hF.size
                have e121 : a.tmps[121]? = some (.bool true) := Inv2.some_slot (by rw [hz]; exact Nat.le_of_ble_eq_true rfl) (F 2 (by kernel_rfl) 121 rfl)
                have e122 : a.tmps[122]? = some (.agg #[.int .i64 ye, .int .i64 yr, .int .i64 yf, .int .i64 yp]) := Inv2.some_slot (by rw [hz]; exact Nat.le_of_ble_eq_true rfl) (F 3 (by kernel_rfl) 122 rfl)
                have e123 : a.tmps[123]? = some (.agg #[.int .i64 xe, .int .i64 xr, .int .i64 xf, .int .i64 xp]) := Inv2.some_slot (by rw [hz]; exact Nat.le_of_ble_eq_true rfl) (F 4 (by kernel_rfl) 123 rfl)
                clear F hF hz
                have hJ1 := hJ
                obtain ⟨jx, jy, jv, jb⟩ := hJ1
                have hnq := HNQ.out
                go_simp
                exact hK (.bool false) _ hJ (Below.refl _ _) rfl
              refine Inv.from_cons _ _ _ _ rfl (fun _ a w hJ hF F K hK => ?_) ?_
              · have hz : a.tmps.size = 142 := hF.size
                have e3 : a.tmps[3]? = some (.pointer (some ⟨bx, 0, none⟩)) := Inv2.some_slot (by rw [hz]; exact Nat.le_of_ble_eq_true rfl) (hF.slot 3 (by kernel_rfl))
                have e121 : a.tmps[121]? = some (.bool true) := Inv2.some_slot (by rw [hz]; exact Nat.le_of_ble_eq_true rfl) (F 2 (by kernel_rfl) 121 rfl)
                clear F hF hz
                have hJ1 := hJ
                obtain ⟨jx, jy, jv, jb⟩ := hJ1
                go_simp
                exact hK (.pointer (some ⟨bx, 0, none⟩)) _ hJ (Below.refl _ _) rfl
              refine Inv.from_cons _ _ _ _ rfl (fun _ a w hJ hF F K hK => ?_) ?_
              · have hz : a.tmps.size = 142 := hF.size
                have e121 : a.tmps[121]? = some (.bool true) := Inv2.some_slot (by rw [hz]; exact Nat.le_of_ble_eq_true rfl) (F 2 (by kernel_rfl) 121 rfl)
                have e125 : a.tmps[125]? = some (.pointer (some ⟨bx, 0, none⟩)) := Inv2.some_slot (by rw [hz]; exact Nat.le_of_ble_eq_true rfl) (F 6 (by kernel_rfl) 125 rfl)
                clear F hF hz
                have hJ1 := hJ
                obtain ⟨jx, jy, jv, jb⟩ := hJ1
                obtain ⟨c0, c1, c2, c3⟩ := jx.cells
                go_simp
                exact hK (.int .i64 xe) _ hJ (Below.refl _ _) rfl
              refine Inv.from_cons _ _ _ _ rfl (fun _ a w hJ hF F K hK => ?_) ?_
              · have hz : a.tmps.size = 142 := hF.size
                have e4 : a.tmps[4]? = some (.pointer (some ⟨y, 0, none⟩)) := Inv2.some_slot (by rw [hz]; exact Nat.le_of_ble_eq_true rfl) (hF.slot 4 (by kernel_rfl))
                have e121 : a.tmps[121]? = some (.bool true) := Inv2.some_slot (by rw [hz]; exact Nat.le_of_ble_eq_true rfl) (F 2 (by kernel_rfl) 121 rfl)
                clear F hF hz
                have hJ1 := hJ
                obtain ⟨jx, jy, jv, jb⟩ := hJ1
                go_simp
                exact hK (.pointer (some ⟨y, 0, none⟩)) _ hJ (Below.refl _ _) rfl
              refine Inv.from_cons _ _ _ _ rfl (fun _ a w hJ hF F K hK => ?_) ?_
              · have hz : a.tmps.size = 142 := hF.size
                have e121 : a.tmps[121]? = some (.bool true) := Inv2.some_slot (by rw [hz]; exact Nat.le_of_ble_eq_true rfl) (F 2 (by kernel_rfl) 121 rfl)
                have e127 : a.tmps[127]? = some (.pointer (some ⟨y, 0, none⟩)) := Inv2.some_slot (by rw [hz]; exact Nat.le_of_ble_eq_true rfl) (F 8 (by kernel_rfl) 127 rfl)
                clear F hF hz
                have hJ1 := hJ
                obtain ⟨jx, jy, jv, jb⟩ := hJ1
                obtain ⟨c0, c1, c2, c3⟩ := jy.cells
                go_simp
                exact hK (.int .i64 ye) _ hJ (Below.refl _ _) rfl
              refine Inv.from_cons _ _ _ _ rfl (fun _ a w hJ hF F K hK => ?_) ?_
              · have hz : a.tmps.size = 142 := hF.size
                have e121 : a.tmps[121]? = some (.bool true) := Inv2.some_slot (by rw [hz]; exact Nat.le_of_ble_eq_true rfl) (F 2 (by kernel_rfl) 121 rfl)
                have e126 : a.tmps[126]? = some (.int .i64 xe) := Inv2.some_slot (by rw [hz]; exact Nat.le_of_ble_eq_true rfl) (F 7 (by kernel_rfl) 126 rfl)
                have e128 : a.tmps[128]? = some (.int .i64 ye) := Inv2.some_slot (by rw [hz]; exact Nat.le_of_ble_eq_true rfl) (F 9 (by kernel_rfl) 128 rfl)
                clear F hF hz
                have hJ1 := hJ
                obtain ⟨jx, jy, jv, jb⟩ := hJ1
                have hgt := HGT.out
                go_simp
                rw [decide_eq_false (show ¬ ye < xe by have := HGT.out; omega)]
                exact hK (.bool false) _ hJ (Below.refl _ _) rfl
              refine Inv.from_cons _ _ _ _ rfl (fun _ a w hJ hF F K hK => ?_) ?_
              · have hz : a.tmps.size = 142 := hF.size
                have e121 : a.tmps[121]? = some (.bool true) := Inv2.some_slot (by rw [hz]; exact Nat.le_of_ble_eq_true rfl) (F 2 (by kernel_rfl) 121 rfl)
                have e124 : a.tmps[124]? = some (.bool false) := Inv2.some_slot (by rw [hz]; exact Nat.le_of_ble_eq_true rfl) (F 5 (by kernel_rfl) 124 rfl)
                have e129 : a.tmps[129]? = some (.bool false) := Inv2.some_slot (by rw [hz]; exact Nat.le_of_ble_eq_true rfl) (F 10 (by kernel_rfl) 129 rfl)
                clear F hF hz
                have hJ1 := hJ
                obtain ⟨jx, jy, jv, jb⟩ := hJ1
                go_simp
                exact hK (.bool true) _ hJ (Below.refl _ _) rfl
              refine Inv.from_cons _ _ _ _ rfl (fun _ a w hJ hF F K hK => ?_) ?_
              · have hz : a.tmps.size = 142 := hF.size
                have e121 : a.tmps[121]? = some (.bool true) := Inv2.some_slot (by rw [hz]; exact Nat.le_of_ble_eq_true rfl) (F 2 (by kernel_rfl) 121 rfl)
                have e130 : a.tmps[130]? = some (.bool true) := Inv2.some_slot (by rw [hz]; exact Nat.le_of_ble_eq_true rfl) (F 11 (by kernel_rfl) 130 rfl)
                clear F hF hz
                have hJ1 := hJ
                obtain ⟨jx, jy, jv, jb⟩ := hJ1
                go_simp
                exact hK (.bool true) _ hJ (Below.refl _ _) rfl
              refine Inv.from_cons _ _ _ _ rfl (fun _ a w hJ hF F K hK => ?_) ?_
              · have hz : a.tmps.size = 142 := hF.size
                have e121 : a.tmps[121]? = some (.bool true) := Inv2.some_slot (by rw [hz]; exact Nat.le_of_ble_eq_true rfl) (F 2 (by kernel_rfl) 121 rfl)
                have e131 : a.tmps[131]? = some (.bool true) := Inv2.some_slot (by rw [hz]; exact Nat.le_of_ble_eq_true rfl) (F 12 (by kernel_rfl) 131 rfl)
                clear F hF hz
                have hJ1 := hJ
                obtain ⟨jx, jy, jv, jb⟩ := hJ1
                go_simp
                exact hK (.bool true) _ hJ (Below.refl _ _) rfl
              refine Inv.from_cons _ _ _ _ rfl (fun _ a w hJ hF F K hK => ?_) ?_
              · have hz : a.tmps.size = 142 := hF.size
                have e12 : a.tmps[12]? = some (.pointer (some ⟨bz, 0, none⟩)) := Inv2.some_slot (by rw [hz]; exact Nat.le_of_ble_eq_true rfl) (hF.slot 12 (by kernel_rfl))
                have e132 : a.tmps[132]? = some (.bool true) := Inv2.some_slot (by rw [hz]; exact Nat.le_of_ble_eq_true rfl) (F 13 (by kernel_rfl) 132 rfl)
                clear F hF hz
                have hJ1 := hJ
                obtain ⟨jx, jy, jv, jb⟩ := hJ1
                obtain ⟨c0, c1, c2, c3⟩ := jv.cells
                go_simp
                exact hK (.agg #[.int .i64 ye, .int .i64 yr, .int .i64 yf, .int .i64 yp]) _ hJ (Below.refl _ _) rfl
              refine Inv.from_cons _ _ _ _ rfl (fun _ a w hJ hF F K hK => ?_) ?_
              · have hz : a.tmps.size = 142 := hF.size
                have e3 : a.tmps[3]? = some (.pointer (some ⟨bx, 0, none⟩)) := Inv2.some_slot (by rw [hz]; exact Nat.le_of_ble_eq_true rfl) (hF.slot 3 (by kernel_rfl))
                have e132 : a.tmps[132]? = some (.bool true) := Inv2.some_slot (by rw [hz]; exact Nat.le_of_ble_eq_true rfl) (F 13 (by kernel_rfl) 132 rfl)
                clear F hF hz
                have hJ1 := hJ
                obtain ⟨jx, jy, jv, jb⟩ := hJ1
                obtain ⟨c0, c1, c2, c3⟩ := jx.cells
                go_simp
                exact hK (.agg #[.int .i64 xe, .int .i64 xr, .int .i64 xf, .int .i64 xp]) _ hJ (Below.refl _ _) rfl
              refine Inv.from_cons _ _ _ _ rfl (fun _ a w hJ hF F K hK => ?_) ?_
              · have hz : a.tmps.size = 142 := hF.size
                have e132 : a.tmps[132]? = some (.bool true) := Inv2.some_slot (by rw [hz]; exact Nat.le_of_ble_eq_true rfl) (F 13 (by kernel_rfl) 132 rfl)
                have e133 : a.tmps[133]? = some (.agg #[.int .i64 ye, .int .i64 yr, .int .i64 yf, .int .i64 yp]) := Inv2.some_slot (by rw [hz]; exact Nat.le_of_ble_eq_true rfl) (F 14 (by kernel_rfl) 133 rfl)
                have e134 : a.tmps[134]? = some (.agg #[.int .i64 xe, .int .i64 xr, .int .i64 xf, .int .i64 xp]) := Inv2.some_slot (by rw [hz]; exact Nat.le_of_ble_eq_true rfl) (F 15 (by kernel_rfl) 134 rfl)
                clear F hF hz
                have hJ1 := hJ
                obtain ⟨jx, jy, jv, jb⟩ := hJ1
                have hnq := HNQ.out
                go_simp
                exact hK (.bool false) _ hJ (Below.refl _ _) rfl
              refine Inv.from_cons _ _ _ _ rfl (fun _ a w hJ hF F K hK => ?_) ?_
              · have hz : a.tmps.size = 142 := hF.size
                have e132 : a.tmps[132]? = some (.bool true) := Inv2.some_slot (by rw [hz]; exact Nat.le_of_ble_eq_true rfl) (F 13 (by kernel_rfl) 132 rfl)
                have e135 : a.tmps[135]? = some (.bool false) := Inv2.some_slot (by rw [hz]; exact Nat.le_of_ble_eq_true rfl) (F 16 (by kernel_rfl) 135 rfl)
                clear F hF hz
                have hJ1 := hJ
                obtain ⟨jx, jy, jv, jb⟩ := hJ1
                go_simp
                exact hK (.bool false) _ hJ (Below.refl _ _) rfl
              refine Inv.from_cons _ _ _ _ rfl (fun _ a w hJ hF F K hK => ?_) ?_
              · have hz : a.tmps.size = 142 := hF.size
                have e12 : a.tmps[12]? = some (.pointer (some ⟨bz, 0, none⟩)) := Inv2.some_slot (by rw [hz]; exact Nat.le_of_ble_eq_true rfl) (hF.slot 12 (by kernel_rfl))
                have e136 : a.tmps[136]? = some (.bool false) := Inv2.some_slot (by rw [hz]; exact Nat.le_of_ble_eq_true rfl) (F 17 (by kernel_rfl) 136 rfl)
                clear F hF hz
                have hJ1 := hJ
                obtain ⟨jx, jy, jv, jb⟩ := hJ1
                obtain ⟨c0, c1, c2, c3⟩ := jv.cells
                go_simp
                exact hK (.agg #[.int .i64 ye, .int .i64 yr, .int .i64 yf, .int .i64 yp]) _ hJ (Below.refl _ _) rfl
              refine Inv.from_cons _ _ _ _ rfl (fun _ a w hJ hF F K hK => ?_) ?_
              · have hz : a.tmps.size = 142 := hF.size
                have e4 : a.tmps[4]? = some (.pointer (some ⟨y, 0, none⟩)) := Inv2.some_slot (by rw [hz]; exact Nat.le_of_ble_eq_true rfl) (hF.slot 4 (by kernel_rfl))
                have e136 : a.tmps[136]? = some (.bool false) := Inv2.some_slot (by rw [hz]; exact Nat.le_of_ble_eq_true rfl) (F 17 (by kernel_rfl) 136 rfl)
                clear F hF hz
                have hJ1 := hJ
                obtain ⟨jx, jy, jv, jb⟩ := hJ1
                obtain ⟨c0, c1, c2, c3⟩ := jy.cells
                go_simp
                exact hK (.agg #[.int .i64 ye, .int .i64 yr, .int .i64 yf, .int .i64 yp]) _ hJ (Below.refl _ _) rfl
              refine Inv.from_cons _ _ _ _ rfl (fun _ a w hJ hF F K hK => ?_) ?_
              · have hz : a.tmps.size = 142 := hF.size
                have e136 : a.tmps[136]? = some (.bool false) := Inv2.some_slot (by rw [hz]; exact Nat.le_of_ble_eq_true rfl) (F 17 (by kernel_rfl) 136 rfl)
                have e137 : a.tmps[137]? = some (.agg #[.int .i64 ye, .int .i64 yr, .int .i64 yf, .int .i64 yp]) := Inv2.some_slot (by rw [hz]; exact Nat.le_of_ble_eq_true rfl) (F 18 (by kernel_rfl) 137 rfl)
                have e138 : a.tmps[138]? = some (.agg #[.int .i64 ye, .int .i64 yr, .int .i64 yf, .int .i64 yp]) := Inv2.some_slot (by rw [hz]; exact Nat.le_of_ble_eq_true rfl) (F 19 (by kernel_rfl) 138 rfl)
                clear F hF hz
                have hJ1 := hJ
                obtain ⟨jx, jy, jv, jb⟩ := hJ1
                go_simp
                exact hK (.bool true) _ hJ (Below.refl _ _) rfl
              refine Inv.from_cons _ _ _ _ rfl (fun _ a w hJ hF F K hK => ?_) ?_
              · have hz : a.tmps.size = 142 := hF.size
                have e132 : a.tmps[132]? = some (.bool true) := Inv2.some_slot (by rw [hz]; exact Nat.le_of_ble_eq_true rfl) (F 13 (by kernel_rfl) 132 rfl)
                have e136 : a.tmps[136]? = some (.bool false) := Inv2.some_slot (by rw [hz]; exact Nat.le_of_ble_eq_true rfl) (F 17 (by kernel_rfl) 136 rfl)
                have e139 : a.tmps[139]? = some (.bool true) := Inv2.some_slot (by rw [hz]; exact Nat.le_of_ble_eq_true rfl) (F 20 (by kernel_rfl) 139 rfl)
                clear F hF hz
                have hJ1 := hJ
                obtain ⟨jx, jy, jv, jb⟩ := hJ1
                go_simp
                exact hK (.bool true) _ hJ (Below.refl _ _) rfl
              refine Inv.from_cons _ _ _ _ rfl (fun _ a w hJ hF F K hK => ?_) ?_
              · have hz : a.tmps.size = 142 := hF.size
                have e132 : a.tmps[132]? = some (.bool true) := Inv2.some_slot (by rw [hz]; exact Nat.le_of_ble_eq_true rfl) (F 13 (by kernel_rfl) 132 rfl)
                have e140 : a.tmps[140]? = some (.bool true) := Inv2.some_slot (by rw [hz]; exact Nat.le_of_ble_eq_true rfl) (F 21 (by kernel_rfl) 140 rfl)
                clear F hF hz
                have hJ1 := hJ
                obtain ⟨jx, jy, jv, jb⟩ := hJ1
                go_simp
                exact hK (.bool true) _ hJ (Below.refl _ _) rfl
              refine Inv.from_skip _ _ _ _ rfl ?_
              exact Inv.from_end _ _ _ _ (by decide +kernel)
            · intro o ho a w hJ hF F K hK
              injection (show some _ = some o from ho) with ho
              subst ho
              obtain ⟨f, hf⟩ : ∃ f : Nat → Value, ∀ i, a.tmps.getD i undef = f i := ⟨_, fun _ => rfl⟩
              have g3 : f 3 = (.pointer (some ⟨bx, 0, none⟩)) := (hf 3).symm.trans (hF.slot 3 (by kernel_rfl))
              have g4 : f 4 = (.pointer (some ⟨y, 0, none⟩)) := (hf 4).symm.trans (hF.slot 4 (by kernel_rfl))
              have g12 : f 12 = (.pointer (some ⟨bz, 0, none⟩)) := (hf 12).symm.trans (hF.slot 12 (by kernel_rfl))
              have g13 : f 13 = (.int .i64 0) := (hf 13).symm.trans (hF.slot 13 (by kernel_rfl))
              have g119 : f 119 = (.int .i64 0) := (hf 119).symm.trans (F 0 (by decide) 119 rfl)
              have g120 : f 120 = (.bool true) := (hf 120).symm.trans (F 1 (by decide) 120 rfl)
              have g121 : f 121 = (.bool true) := (hf 121).symm.trans (F 2 (by decide) 121 rfl)
              have g122 : f 122 = (.agg #[.int .i64 ye, .int .i64 yr, .int .i64 yf, .int .i64 yp]) := (hf 122).symm.trans (F 3 (by decide) 122 rfl)
              have g123 : f 123 = (.agg #[.int .i64 xe, .int .i64 xr, .int .i64 xf, .int .i64 xp]) := (hf 123).symm.trans (F 4 (by decide) 123 rfl)
              have g124 : f 124 = (.bool false) := (hf 124).symm.trans (F 5 (by decide) 124 rfl)
              have g125 : f 125 = (.pointer (some ⟨bx, 0, none⟩)) := (hf 125).symm.trans (F 6 (by decide) 125 rfl)
              have g126 : f 126 = (.int .i64 xe) := (hf 126).symm.trans (F 7 (by decide) 126 rfl)
              have g127 : f 127 = (.pointer (some ⟨y, 0, none⟩)) := (hf 127).symm.trans (F 8 (by decide) 127 rfl)
              have g128 : f 128 = (.int .i64 ye) := (hf 128).symm.trans (F 9 (by decide) 128 rfl)
              have g129 : f 129 = (.bool false) := (hf 129).symm.trans (F 10 (by decide) 129 rfl)
              have g130 : f 130 = (.bool true) := (hf 130).symm.trans (F 11 (by decide) 130 rfl)
              have g131 : f 131 = (.bool true) := (hf 131).symm.trans (F 12 (by decide) 131 rfl)
              have g132 : f 132 = (.bool true) := (hf 132).symm.trans (F 13 (by decide) 132 rfl)
              have g133 : f 133 = (.agg #[.int .i64 ye, .int .i64 yr, .int .i64 yf, .int .i64 yp]) := (hf 133).symm.trans (F 14 (by decide) 133 rfl)
              have g134 : f 134 = (.agg #[.int .i64 xe, .int .i64 xr, .int .i64 xf, .int .i64 xp]) := (hf 134).symm.trans (F 15 (by decide) 134 rfl)
              have g135 : f 135 = (.bool false) := (hf 135).symm.trans (F 16 (by decide) 135 rfl)
              have g136 : f 136 = (.bool false) := (hf 136).symm.trans (F 17 (by decide) 136 rfl)
              have g137 : f 137 = (.agg #[.int .i64 ye, .int .i64 yr, .int .i64 yf, .int .i64 yp]) := (hf 137).symm.trans (F 18 (by decide) 137 rfl)
              have g138 : f 138 = (.agg #[.int .i64 ye, .int .i64 yr, .int .i64 yf, .int .i64 yp]) := (hf 138).symm.trans (F 19 (by decide) 138 rfl)
              have g139 : f 139 = (.bool true) := (hf 139).symm.trans (F 20 (by decide) 139 rfl)
              have g140 : f 140 = (.bool true) := (hf 140).symm.trans (F 21 (by decide) 140 rfl)
              have g141 : f 141 = (.bool true) := (hf 141).symm.trans (F 22 (by decide) 141 rfl)
              have ha := Frames.frame (show a.tmps.size = 142 from hF.size) hF.defers hf (l := [f 0, f 1, f 2, f 3, f 4, f 5, f 6, f 7, f 8, f 9, f 10, f 11, f 12, f 13, f 14, f 15, f 16, f 17, f 18, f 19, f 20, f 21, f 22, f 23, f 24, f 25, f 26, f 27, f 28, f 29, f 30, f 31, f 32, f 33, f 34, f 35, f 36, f 37, f 38, f 39, f 40, f 41, f 42, f 43, f 44, f 45, f 46, f 47, f 48, f 49, f 50, f 51, f 52, f 53, f 54, f 55, f 56, f 57, f 58, f 59, f 60, f 61, f 62, f 63, f 64, f 65, f 66, f 67, f 68, f 69, f 70, f 71, f 72, f 73, f 74, f 75, f 76, f 77, f 78, f 79, f 80, f 81, f 82, f 83, f 84, f 85, f 86, f 87, f 88, f 89, f 90, f 91, f 92, f 93, f 94, f 95, f 96, f 97, f 98, f 99, f 100, f 101, f 102, f 103, f 104, f 105, f 106, f 107, f 108, f 109, f 110, f 111, f 112, f 113, f 114, f 115, f 116, f 117, f 118, f 119, f 120, f 121, f 122, f 123, f 124, f 125, f 126, f 127, f 128, f 129, f 130, f 131, f 132, f 133, f 134, f 135, f 136, f 137, f 138, f 139, f 140, f 141]) rfl
              simp only [g3, g4, g12, g13, g119, g120, g121, g122, g123, g124, g125, g126, g127, g128, g129, g130, g131, g132, g133, g134, g135, g136, g137, g138, g139, g140, g141] at ha
              clear F hF hf g3 g4 g12 g13 g119 g120 g121 g122 g123 g124 g125 g126 g127 g128 g129 g130 g131 g132 g133 g134 g135 g136 g137 g138 g139 g140 g141
              subst ha
              have hJ1 := hJ
              obtain ⟨jx, jy, jv, jb⟩ := hJ1
              have HB := Lib.hid jb
              clear hJ jx jy jv jb
              go_simp
              refine hK _ _ ?_
              clear hK
              go_wp2_with fail
              go_ret
              exact ⟨rfl, HB.out⟩
            · intro hq; exact absurd hq (by decide +kernel)
    · intro hq; exact absurd hq (by decide +kernel)
  · intro hq; exact absurd hq (by decide +kernel)

end Go.Proofs.Ytcnblgienombeaa.SuperPicks
