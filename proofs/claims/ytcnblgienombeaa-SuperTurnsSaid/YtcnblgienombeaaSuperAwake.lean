/- What the chapter's example fixes holds, by what the calls are asked for. -/
import Derived.Test.YtcnblgienombeaaSuperSpec
import Derived.BigGuard
namespace Go.Proofs.Ytcnblgienombeaa.SuperAwake
open Go.RowKit Base SumPlain SumMem SumFill SumOf PagePlain PageSmall PageBytes PageLay PagePut PageFour PageAwake SuperPlain SuperRefCheck SuperPlumb SuperSpec

abbrev X0 : Sp := ⟨4, 3, 0, 9⟩
abbrev Y0 : Sp := ⟨5, 5, 6, 10⟩
theorem okX : Ok X0 := by decide
theorem okY : Ok Y0 := by decide
theorem ok_in {x : Sp} (h : Ok x) : InS x := by
  obtain ⟨h1, h2, h3, h4, h5, h6⟩ := h
  unfold InS In
  omega
set_option maxRecDepth 100000 in
set_option maxHeartbeats 12800000 in
theorem awake_any (S : Specs) (W : World) : Calls Try.prog 9 #[] W (Law W) := by
  have HS := Lib.hid S
  clear S
  unfold Law
  go_enter Try.func9, Try.ntmps9
  go_wp2_with fail
  (with_reducible refine (new_s W).mono ?_)
  rintro e w1 ⟨g, rfl, s1⟩
  obtain ⟨w2, hw2⟩ : ∃ v, v = w1.alloc (.cells #[.int .i64 4, .int .i64 3, .int .i64 0, .int .i64 9] 23) := ⟨_, rfl⟩
  have s2 : Sg W g 0 w2 := by rw [hw2]; exact s1.below (al' _ _)
  have x2 : Bs w2 w1.heap.size X0 := by rw [hw2]; exact bs_new w1 X0
  have hxg : w1.heap.size ≠ g := by have := s1.lt; omega
  have hxW : W.heap.size ≤ w1.heap.size := s1.base.size
  have HW2 := Lib.hid hw2
  clear s1 hw2
  generalize hbx : w1.heap.size = bx at *
  obtain ⟨c0, c1, c2, c3⟩ := x2.cells
  have hcall := put_s HS.out s2 (by omega) X0 (ok_in okX)
  go_wp2_with fail
  rw [← HW2.out]
  try rw [hbx]
  clear hbx
  (with_reducible refine hcall.mono ?_)
  clear hcall c0 c1 c2 c3
  rintro e w3 ⟨s3, o3, ⟨_, b1, t1, rfl, hb1, ha1⟩ | ⟨hn, _⟩⟩
  case inr => exact absurd okX hn
  rw [show (X0.ep % 2 : Int) = 0 from rfl]
  have hbg : b1 ≠ g := by have := s2.lt; omega
  have hbx1 : b1 ≠ bx := by have := x2.lt; omega
  have x3 := x2.only o3 hxg
  clear x2 s2 o3 hb1
  obtain ⟨c0, c1, c2, c3⟩ := x3.cells
  have hcall := HS.out.next w3 X0 5 6 10 (by decide) (by decide)
  rw [show next X0 5 6 10 = Y0 from rfl] at hcall
  go_wp2_with fail
  (with_reducible refine hcall.mono ?_)
  clear hcall c0 c1 c2 c3
  rintro e w4 ⟨rfl, hb4⟩
  have x4 := x3.below hb4
  have s4 := s3.below hb4
  have a4 := ha1.below hb4
  clear x3 s3 ha1 hb4
  obtain ⟨w5, hw5⟩ : ∃ v, v = w4.alloc (.cells #[.int .i64 5, .int .i64 5, .int .i64 6, .int .i64 10] 23) := ⟨_, rfl⟩
  have hb5 : Below w4.heap.size w4 w5 := by rw [hw5]; exact al' _ _
  have x5 := x4.below hb5
  have s5 := s4.below hb5
  have a5 := a4.below hb5
  have y5 : Bs w5 w4.heap.size Y0 := by rw [hw5]; exact bs_new w4 Y0
  have hyg : w4.heap.size ≠ g := by have := s4.lt; omega
  have hyx : w4.heap.size ≠ bx := by have := x4.lt; omega
  have HW5 := Lib.hid hw5
  clear x4 s4 a4 hb5 hw5
  generalize hby : w4.heap.size = y at *
  obtain ⟨c0, c1, c2, c3⟩ := y5.cells
  have hcall := put_s HS.out s5 (by omega) Y0 (ok_in okY)
  go_wp2_with fail
  try rw [← HW5.out]
  try rw [hby]
  (with_reducible refine hcall.mono ?_)
  clear hcall c0 c1 c2 c3
  rintro e w6 ⟨s6, o6, ⟨_, b2, t2, rfl, hb2, ha2⟩ | ⟨hn, _⟩⟩
  case inr => exact absurd okY hn
  rw [show (Y0.ep % 2 : Int) = 1 from rfl]
  have hcg : b2 ≠ g := by have := s5.lt; omega
  have hcx : b2 ≠ bx := by have := x5.lt; omega
  have hcy : b2 ≠ y := by have := y5.lt; omega
  have hcW : W.heap.size ≤ b2 := by have := s5.base.size; omega
  have hcb : b2 ≠ b1 := by have := At.lt a5; omega
  have x6 := x5.only o6 hxg
  have y6 := y5.only o6 hyg
  have a6 := a5.only o6 hbg
  clear x5 y5 a5 s5 o6 hb2
  have hcall := pick_s HS.out s6 (by omega) ⟨b1, 0, none⟩ ⟨b2, 0, none⟩ 256 256 (sbytes X0) (sbytes Y0) (Arr.rowX a6 hbg) (Arr.rowX ha2 hcg) (sbytes_len _) (sbytes_len _) (Nat.le_refl _) (Nat.le_refl _)
  rw [pick_two okX okY rfl rfl, show ansOf (.inr (if Y0.ep < X0.ep then X0 else Y0)) = .tuple #[.agg #[.int .i64 5, .int .i64 5, .int .i64 6, .int .i64 10], .int .i64 0] from rfl] at hcall
  go_wp2_with fail
  (with_reducible refine hcall.mono ?_)
  clear hcall
  rintro e w7 ⟨rfl, s7, o7⟩
  have x7 := x6.only o7 hxg
  have y7 := y6.only o7 hyg
  have a7 := a6.only o7 hbg
  have d7 := ha2.only o7 hcg
  clear x6 y6 a6 s6 ha2 o7
  obtain ⟨w8, hw8⟩ : ∃ v, v = w7.alloc (.cells #[.int .i64 5, .int .i64 5, .int .i64 6, .int .i64 10] 23) := ⟨_, rfl⟩
  have hb8 : Below w7.heap.size w7 w8 := by rw [hw8]; exact al' _ _
  have x8 := x7.below hb8
  have y8 := y7.below hb8
  have s8 := s7.below hb8
  have a8 := a7.below hb8
  have d8 := d7.below hb8
  have z8 : Bs w8 w7.heap.size Y0 := by rw [hw8]; exact bs_new w7 Y0
  have hzg : w7.heap.size ≠ g := by have := s7.lt; omega
  have hcz : b2 ≠ w7.heap.size := by have := At.lt d7; omega
  have HW8 := Lib.hid hw8
  clear x7 y7 s7 a7 d7 hb8 hw8
  obtain ⟨x80, x81, x82, x83⟩ := x8.cells
  obtain ⟨y80, y81, y82, y83⟩ := y8.cells
  obtain ⟨z80, z81, z82, z83⟩ := z8.cells
  generalize hbz : w7.heap.size = z at *
  have h0 : w8.cell? ⟨b2, 0, none⟩ = some (.int .u8 9) := d8.cell 0 (by rw [sbytes_len]; decide)
  go_upto_region 9 with fail
  try rw [← HW8.out]
  try rw [hbz]
  have h1 := At.frozen d8 0
  obtain ⟨w9, hw9⟩ : ∃ v, v = w8.setCell ⟨b2, 0, none⟩ (.int .u8 10) := ⟨_, rfl⟩
  have d9 : Arr w9 b2 t2 ((sbytes Y0).set 0 10) := by rw [hw9]; exact Arr.set d8 0 10
  have x9 : Bs w9 bx X0 := by rw [hw9]; exact x8.far hcx.symm _
  have y9 : Bs w9 y Y0 := by rw [hw9]; exact y8.far hcy.symm _
  have s9 : Sg W g (0 + 2000 + 2000 + 2000) w9 := by rw [hw9]; exact s8.far hcg.symm hcW _
  have a9 : Arr w9 b1 t1 (sbytes X0) := by rw [hw9]; exact arr_far a8 hcb.symm _
  have HW9 := Lib.hid hw9
  clear x8 y8 s8 a8 d8 z8 hw9
  have hcall := pick_s HS.out s9 (by omega) ⟨b1, 0, none⟩ ⟨b2, 0, none⟩ 256 256 (sbytes X0) ((sbytes Y0).set 0 10) (Arr.rowX a9 hbg) (Arr.rowX d9 hcg) (sbytes_len _) (by rw [List.length_set]; exact sbytes_len _) (Nat.le_refl _) (Nat.le_refl _)
  rw [awake_turned, show ansOf (.inr ⟨4, 3, 0, 9⟩) = .tuple #[.agg #[.int .i64 4, .int .i64 3, .int .i64 0, .int .i64 9], .int .i64 0] from rfl] at hcall
  go_upto_region 12 with fail
  rw [← HW9.out]
  clear h0 h1 x80 x81 x82 x83 y80 y81 y82 y83 z80 z81 z82 z83 HW8 HW9 HW5 HW2
  go_wp2_with fail
  (with_reducible refine hcall.mono ?_)
  clear hcall
  rintro e wa ⟨rfl, sa, oa⟩
  have xa := x9.only oa hxg
  have ya := y9.only oa hyg
  clear x9 y9 s9 oa a9 d9
  obtain ⟨wb, hwb⟩ : ∃ v, v = wa.alloc (.cells #[.int .i64 4, .int .i64 3, .int .i64 0, .int .i64 9] 23) := ⟨_, rfl⟩
  have hbb : Below wa.heap.size wa wb := by rw [hwb]; exact al' _ _
  have xb := xa.below hbb
  have yb := ya.below hbb
  have sb := sa.below hbb
  have vb : Bs wb wa.heap.size X0 := by rw [hwb]; exact bs_new wa X0
  have HWB := Lib.hid hwb
  clear xa ya sa hbb hwb
  obtain ⟨x80, x81, x82, x83⟩ := xb.cells
  obtain ⟨y80, y81, y82, y83⟩ := yb.cells
  obtain ⟨v80, v81, v82, v83⟩ := vb.cells
  generalize hbv : wa.heap.size = v at *
  have hcall := HS.out.check wb X0 (ok_in okX)
  rw [show decide (Ok X0) = true from rfl] at hcall
  go_upto_region 13 with fail
  try rw [← HWB.out]
  try rw [hbv]
  go_wp2_with fail
  (with_reducible refine hcall.mono ?_)
  clear hcall
  rintro e wc ⟨rfl, hbc⟩
  have sc := sb.below hbc
  clear x80 x81 x82 x83 y80 y81 y82 y83 v80 v81 v82 v83 sb xb yb vb
  go_wp2_with fail
  go_ret
  exact ⟨rfl, sc.base⟩
end Go.Proofs.Ytcnblgienombeaa.SuperAwake
