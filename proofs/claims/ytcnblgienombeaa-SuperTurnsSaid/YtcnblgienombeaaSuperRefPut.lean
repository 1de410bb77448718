/- The contracts of the document's four and Put of supers. -/
import Derived.Test.YtcnblgienombeaaSuperRefCheck
import Derived.Test.YtcnblgienombeaaPageRefPut
import Derived.Test.YtcnblgienombeaaInv2
import Derived.Test.YtcnblgienombeaaFrames
namespace Go.Proofs.Ytcnblgienombeaa.SuperRefPut
open Go.RowKit Base SumPlain PagePlain PageSmall PageFour PageAwake SuperPlain SuperRefCheck

theorem rfour_nat (w : World) (n : Nat) (hn : n < 4294967296) : Calls Try.prog 25 #[.int .i64 (n : Int)] w fun e w' => e = .returned (.string (tx (be4 n))) ∧ Below w.heap.size w w' := by
  have e0 : ((b8 (n / 16777216)).toNat : Int) = (n : Int) / 16777216 := by rw [b8_nat]; omega
  have e1 : ((b8 (n / 65536)).toNat : Int) = (n : Int) / 65536 % 256 := by rw [b8_nat]; omega
  have e2 : ((b8 (n / 256)).toNat : Int) = (n : Int) / 256 % 256 := by rw [b8_nat]; omega
  have e3 : ((b8 n).toNat : Int) = (n : Int) % 256 := by rw [b8_nat]; omega
  have hcv := conv_new w (be4 n) #[.int .u8 ((n : Int) / 16777216), .int .u8 ((n : Int) / 65536 % 256), .int .u8 ((n : Int) / 256 % 256), .int .u8 ((n : Int) % 256)] 4 4 (by simp [be4, bv, e0, e1, e2, e3]) rfl
  clear e0 e1 e2 e3
  generalize tx (be4 n) = s at *
  go_enter Try.func25, Try.ntmps25
  go_wp2_with fail
  go_ret
  exact ⟨rfl, al _ _⟩
theorem rfour_any (w : World) (z : Int) (h0 : 0 ≤ z) (h1 : z ≤ 4294967295) : Calls Try.prog 25 #[.int .i64 z] w fun e w' => e = .returned (.string (tx (be4 z.toNat))) ∧ Below w.heap.size w w' := by
  obtain ⟨n, rfl⟩ := Int.eq_ofNat_of_zero_le h0
  exact rfour_nat w n (by omega)
/-- a boxed super -/
structure Bx7 (W : World) (x : Sp) (w : World) : Prop where
  c0 : w.cell? ⟨W.heap.size, 0, none⟩ = some (.int .i64 x.ep)
  c1 : w.cell? ⟨W.heap.size, 1, none⟩ = some (.int .i64 x.root)
  c2 : w.cell? ⟨W.heap.size, 2, none⟩ = some (.int .i64 x.free)
  c3 : w.cell? ⟨W.heap.size, 3, none⟩ = some (.int .i64 x.pages)
  lt : W.heap.size < w.heap.size
  base : Below W.heap.size W w
theorem Bx7.below {W w w' : World} {x : Sp} (h : Bx7 W x w) (hb : Below w.heap.size w w') : Bx7 W x w' := by
  obtain ⟨c0, c1, c2, c3, lt, base⟩ := h
  exact ⟨(hb.cell (p := ⟨W.heap.size, 0, none⟩) lt).trans c0, (hb.cell (p := ⟨W.heap.size, 1, none⟩) lt).trans c1, (hb.cell (p := ⟨W.heap.size, 2, none⟩) lt).trans c2, (hb.cell (p := ⟨W.heap.size, 3, none⟩) lt).trans c3, Nat.lt_of_lt_of_le lt hb.size, base.trans (hb.mono base.size)⟩
theorem bx7_new (W : World) (x : Sp) : Bx7 W x (W.alloc (.cells #[.int .i64 x.ep, .int .i64 x.root, .int .i64 x.free, .int .i64 x.pages] 23)) := ⟨by simp, by simp, by simp, by simp, by simp, al _ _⟩
/-- its one cell, in a slice; its page -/
def SlC (x : Sp) (v : Value) (w : World) : Prop := ∃ A c, v = .slice A 1 c ∧ Row w w.heap.size A (strs [cell x])
theorem SlC.below {x : Sp} {v : Value} {w w' : World} (h : SlC x v w) (hb : Below w.heap.size w w') : SlC x v w' := by
  obtain ⟨A, c, e, hr⟩ := h
  exact ⟨A, c, e, hr.belowSize hb⟩
theorem slc_new (w : World) (x : Sp) : SlC x (.slice (some ⟨w.heap.size, 0, none⟩) 1 1) (w.alloc (.cells #[.string (tx (be4 x.root.toNat ++ be4 x.free.toNat ++ be4 x.pages.toNat))] 9)) :=
  ⟨_, _, rfl, (row_of_block (heap_alloc_new w (.cells #[.string (tx (be4 x.root.toNat ++ be4 x.free.toNat ++ be4 x.pages.toNat))] 9))).more (by simp)⟩
def PvC (x : Sp) (v : Value) (w : World) : Prop := ∃ A c, v = pv (pg x) A c ∧ Row w w.heap.size A (strs (pg x).cells)
theorem PvC.below {x : Sp} {v : Value} {w w' : World} (h : PvC x v w) (hb : Below w.heap.size w w') : PvC x v w' := by
  obtain ⟨A, c, e, hr⟩ := h
  exact ⟨A, c, e, hr.belowSize hb⟩
set_option maxRecDepth 100000 in
set_option maxHeartbeats 6400000 in
theorem rput_any (W : World) (x : Sp) (hx : Ok x) : Calls Try.prog 14 #[sv x] W fun e w' => e = .returned (.string (tx (sbytes x))) ∧ Below W.heap.size W w' := by
  have HOK := Lib.hid hx
  have hJ0 := (bx7_new W x).below (w' := World.drew (W.alloc (.cells #[.int .i64 x.ep, .int .i64 x.root, .int .i64 x.free, .int .i64 x.pages] 23))) (Below.refl _ _).drew
  obtain ⟨g1, g2, g3, g4, g5, g6⟩ := hx
  obtain ⟨ep, root, free, pages⟩ := x
  simp only at g1 g2 g3 g4 g5 g6 hJ0
  go_enter Try.func14, Try.ntmps14
  go_wp2_with fail
  refine wp_region_any (by kernel_rfl) ?_
  change wpAny _ _ _ _ _ _ _ (World.drew _)
  refine Inv.inv_any (fun (i : Nat) (v : Value) (w : World) => match i with | 0 => v = .pointer (some ⟨W.heap.size, 0, none⟩) | 1 => v = .int .i64 ep | 2 => v = .int .i64 (ep % 2) | 3 => v = .pointer (some ⟨W.heap.size, 0, none⟩) | 4 => v = .int .i64 ep | 5 => v = .pointer (some ⟨W.heap.size, 1, none⟩) | 6 => v = .int .i64 root | 7 => v = .string (tx (be4 root.toNat)) | 8 => v = .pointer (some ⟨W.heap.size, 2, none⟩) | 9 => v = .int .i64 free | 10 => v = .string (tx (be4 free.toNat)) | 11 => v = .string (tx (be4 root.toNat ++ be4 free.toNat)) | 12 => v = .pointer (some ⟨W.heap.size, 3, none⟩) | 13 => v = .int .i64 pages | 14 => v = .string (tx (be4 pages.toNat)) | 15 => v = .string (tx (be4 root.toNat ++ be4 free.toNat ++ be4 pages.toNat)) | 16 => SlC ⟨ep, root, free, pages⟩ v w | 17 => PvC ⟨ep, root, free, pages⟩ v w | 18 => v = .tuple #[.string (tx (sbytes ⟨ep, root, free, pages⟩)), .int .i64 0] | 19 => v = .tuple #[.string (tx (sbytes ⟨ep, root, free, pages⟩)), .int .i64 0] | 20 => v = .string (tx (sbytes ⟨ep, root, free, pages⟩)) | 21 => v = .int .i64 0 | 22 => v = .string (tx (sbytes ⟨ep, root, free, pages⟩)) | _ => True) (fun w' : World => Bx7 W ⟨ep, root, free, pages⟩ w') _ 23 28 rfl rfl rfl (by kernel_rfl) (by kernel_rfl) hJ0 ?_ ?_ ?_ ?_
  · intro j v w w' h hb
    match j, h with
    | 0, h => exact h
    | 1, h => exact h
    | 2, h => exact h
    | 3, h => exact h
    | 4, h => exact h
    | 5, h => exact h
    | 6, h => exact h
    | 7, h => exact h
    | 8, h => exact h
    | 9, h => exact h
    | 10, h => exact h
    | 11, h => exact h
    | 12, h => exact h
    | 13, h => exact h
    | 14, h => exact h
    | 15, h => exact h
    | 16, h => exact SlC.below h hb
    | 17, h => exact PvC.below h hb
    | 18, h => exact h
    | 19, h => exact h
    | 20, h => exact h
    | 21, h => exact h
    | 22, h => exact h
    | 23, _ => exact trivial
    | (_ + 24), _ => exact trivial
  · skip
    refine Inv.from_cons _ _ _ _ rfl (fun _ a w hJ hF F K hK => ?_) ?_
    · have hz : a.tmps.size = 28 := hF.size
      have e1 : a.tmps[1]? = some (.pointer (some ⟨W.heap.size, 0, none⟩)) := Inv2.some_slot (by rw [hz]; exact Nat.le_of_ble_eq_true rfl) (hF.slot 1 (by kernel_rfl))
      clear F hF hz
      have hJ1 := hJ
      obtain ⟨c0, c1, c2, c3, _, _⟩ := hJ1
      go_simp
      exact hK (.pointer (some ⟨W.heap.size, 0, none⟩)) _ hJ (Below.refl _ _) rfl
    refine Inv.from_cons _ _ _ _ rfl (fun _ a w hJ hF F K hK => ?_) ?_
    · have hz : a.tmps.size = 28 := hF.size
      have e6 : a.tmps[6]? = some (.pointer (some ⟨W.heap.size, 0, none⟩)) := Inv2.some_slot (by rw [hz]; exact Nat.le_of_ble_eq_true rfl) (F 0 (by kernel_rfl) 6 rfl)
      clear F hF hz
      have hJ1 := hJ
      obtain ⟨c0, c1, c2, c3, _, _⟩ := hJ1
      go_simp
      exact hK (.int .i64 ep) _ hJ (Below.refl _ _) rfl
    refine Inv.from_cons _ _ _ _ rfl (fun _ a w hJ hF F K hK => ?_) ?_
    · have hz : a.tmps.size = 28 := hF.size
      have e7 : a.tmps[7]? = some (.int .i64 ep) := Inv2.some_slot (by rw [hz]; exact Nat.le_of_ble_eq_true rfl) (F 1 (by kernel_rfl) 7 rfl)
      clear F hF hz
      have hJ1 := hJ
      obtain ⟨c0, c1, c2, c3, _, _⟩ := hJ1
      have em : ep.tmod 2 = ep % 2 := Int.tmod_eq_emod_of_nonneg g1
      go_simp
      exact hK (.int .i64 (ep % 2)) _ hJ (Below.refl _ _) rfl
    refine Inv.from_cons _ _ _ _ rfl (fun _ a w hJ hF F K hK => ?_) ?_
    · have hz : a.tmps.size = 28 := hF.size
      have e1 : a.tmps[1]? = some (.pointer (some ⟨W.heap.size, 0, none⟩)) := Inv2.some_slot (by rw [hz]; exact Nat.le_of_ble_eq_true rfl) (hF.slot 1 (by kernel_rfl))
      clear F hF hz
      have hJ1 := hJ
      obtain ⟨c0, c1, c2, c3, _, _⟩ := hJ1
      go_simp
      exact hK (.pointer (some ⟨W.heap.size, 0, none⟩)) _ hJ (Below.refl _ _) rfl
    refine Inv.from_cons _ _ _ _ rfl (fun _ a w hJ hF F K hK => ?_) ?_
    · have hz : a.tmps.size = 28 := hF.size
      have e9 : a.tmps[9]? = some (.pointer (some ⟨W.heap.size, 0, none⟩)) := Inv2.some_slot (by rw [hz]; exact Nat.le_of_ble_eq_true rfl) (F 3 (by kernel_rfl) 9 rfl)
      clear F hF hz
      have hJ1 := hJ
      obtain ⟨c0, c1, c2, c3, _, _⟩ := hJ1
      go_simp
      exact hK (.int .i64 ep) _ hJ (Below.refl _ _) rfl
    refine Inv.from_cons _ _ _ _ rfl (fun _ a w hJ hF F K hK => ?_) ?_
    · have hz : a.tmps.size = 28 := hF.size
      have e1 : a.tmps[1]? = some (.pointer (some ⟨W.heap.size, 0, none⟩)) := Inv2.some_slot (by rw [hz]; exact Nat.le_of_ble_eq_true rfl) (hF.slot 1 (by kernel_rfl))
      clear F hF hz
      have hJ1 := hJ
      obtain ⟨c0, c1, c2, c3, _, _⟩ := hJ1
      go_simp
      exact hK (.pointer (some ⟨W.heap.size, 1, none⟩)) _ hJ (Below.refl _ _) rfl
    refine Inv.from_cons _ _ _ _ rfl (fun _ a w hJ hF F K hK => ?_) ?_
    · have hz : a.tmps.size = 28 := hF.size
      have e11 : a.tmps[11]? = some (.pointer (some ⟨W.heap.size, 1, none⟩)) := Inv2.some_slot (by rw [hz]; exact Nat.le_of_ble_eq_true rfl) (F 5 (by kernel_rfl) 11 rfl)
      clear F hF hz
      have hJ1 := hJ
      obtain ⟨c0, c1, c2, c3, _, _⟩ := hJ1
      go_simp
      exact hK (.int .i64 root) _ hJ (Below.refl _ _) rfl
    refine Inv.from_cons _ _ _ _ rfl (fun _ a w hJ hF F K hK => ?_) ?_
    · have hz : a.tmps.size = 28 := hF.size
      have e12 : a.tmps[12]? = some (.int .i64 root) := Inv2.some_slot (by rw [hz]; exact Nat.le_of_ble_eq_true rfl) (F 6 (by kernel_rfl) 12 rfl)
      clear F hF hz
      have hJ1 := hJ
      obtain ⟨c0, c1, c2, c3, _, _⟩ := hJ1
      have hh := rfour_any w root (by omega) (by omega)
      go_simp
      (with_reducible refine hh.mono ?_)
      rintro e' w' ⟨rfl, hb⟩
      go_simp
      exact hK _ _ (hJ.below hb) hb rfl
    refine Inv.from_cons _ _ _ _ rfl (fun _ a w hJ hF F K hK => ?_) ?_
    · have hz : a.tmps.size = 28 := hF.size
      have e1 : a.tmps[1]? = some (.pointer (some ⟨W.heap.size, 0, none⟩)) := Inv2.some_slot (by rw [hz]; exact Nat.le_of_ble_eq_true rfl) (hF.slot 1 (by kernel_rfl))
      clear F hF hz
      have hJ1 := hJ
      obtain ⟨c0, c1, c2, c3, _, _⟩ := hJ1
      go_simp
      exact hK (.pointer (some ⟨W.heap.size, 2, none⟩)) _ hJ (Below.refl _ _) rfl
    refine Inv.from_cons _ _ _ _ rfl (fun _ a w hJ hF F K hK => ?_) ?_
    · have hz : a.tmps.size = 28 := hF.size
      have e14 : a.tmps[14]? = some (.pointer (some ⟨W.heap.size, 2, none⟩)) := Inv2.some_slot (by rw [hz]; exact Nat.le_of_ble_eq_true rfl) (F 8 (by kernel_rfl) 14 rfl)
      clear F hF hz
      have hJ1 := hJ
      obtain ⟨c0, c1, c2, c3, _, _⟩ := hJ1
      go_simp
      exact hK (.int .i64 free) _ hJ (Below.refl _ _) rfl
    refine Inv.from_cons _ _ _ _ rfl (fun _ a w hJ hF F K hK => ?_) ?_
    · have hz : a.tmps.size = 28 := hF.size
      have e13 : a.tmps[13]? = some (.string (tx (be4 root.toNat))) := Inv2.some_slot (by rw [hz]; exact Nat.le_of_ble_eq_true rfl) (F 7 (by kernel_rfl) 13 rfl)
      have e15 : a.tmps[15]? = some (.int .i64 free) := Inv2.some_slot (by rw [hz]; exact Nat.le_of_ble_eq_true rfl) (F 9 (by kernel_rfl) 15 rfl)
      clear F hF hz
      have hJ1 := hJ
      obtain ⟨c0, c1, c2, c3, _, _⟩ := hJ1
      have hh := rfour_any w free (by omega) (by omega)
      go_simp
      (with_reducible refine hh.mono ?_)
      rintro e' w' ⟨rfl, hb⟩
      go_simp
      exact hK _ _ (hJ.below hb) hb rfl
    refine Inv.from_cons _ _ _ _ rfl (fun _ a w hJ hF F K hK => ?_) ?_
    · have hz : a.tmps.size = 28 := hF.size
      have e13 : a.tmps[13]? = some (.string (tx (be4 root.toNat))) := Inv2.some_slot (by rw [hz]; exact Nat.le_of_ble_eq_true rfl) (F 7 (by kernel_rfl) 13 rfl)
      have e16 : a.tmps[16]? = some (.string (tx (be4 free.toNat))) := Inv2.some_slot (by rw [hz]; exact Nat.le_of_ble_eq_true rfl) (F 10 (by kernel_rfl) 16 rfl)
      clear F hF hz
      have hJ1 := hJ
      obtain ⟨c0, c1, c2, c3, _, _⟩ := hJ1
      have htx : tx (be4 root.toNat) ++ tx (be4 free.toNat) = tx (be4 root.toNat ++ be4 free.toNat) := tx_append _ _
      go_simp
      exact hK (.string (tx (be4 root.toNat ++ be4 free.toNat))) _ hJ (Below.refl _ _) rfl
    refine Inv.from_cons _ _ _ _ rfl (fun _ a w hJ hF F K hK => ?_) ?_
    · have hz : a.tmps.size = 28 := hF.size
      have e1 : a.tmps[1]? = some (.pointer (some ⟨W.heap.size, 0, none⟩)) := Inv2.some_slot (by rw [hz]; exact Nat.le_of_ble_eq_true rfl) (hF.slot 1 (by kernel_rfl))
      clear F hF hz
      have hJ1 := hJ
      obtain ⟨c0, c1, c2, c3, _, _⟩ := hJ1
      go_simp
      exact hK (.pointer (some ⟨W.heap.size, 3, none⟩)) _ hJ (Below.refl _ _) rfl
    refine Inv.from_cons _ _ _ _ rfl (fun _ a w hJ hF F K hK => ?_) ?_
    · have hz : a.tmps.size = 28 := hF.size
      have e18 : a.tmps[18]? = some (.pointer (some ⟨W.heap.size, 3, none⟩)) := Inv2.some_slot (by rw [hz]; exact Nat.le_of_ble_eq_true rfl) (F 12 (by kernel_rfl) 18 rfl)
      clear F hF hz
      have hJ1 := hJ
      obtain ⟨c0, c1, c2, c3, _, _⟩ := hJ1
      go_simp
      exact hK (.int .i64 pages) _ hJ (Below.refl _ _) rfl
    refine Inv.from_cons _ _ _ _ rfl (fun _ a w hJ hF F K hK => ?_) ?_
    · have hz : a.tmps.size = 28 := hF.size
      have e16 : a.tmps[16]? = some (.string (tx (be4 free.toNat))) := Inv2.some_slot (by rw [hz]; exact Nat.le_of_ble_eq_true rfl) (F 10 (by kernel_rfl) 16 rfl)
      have e19 : a.tmps[19]? = some (.int .i64 pages) := Inv2.some_slot (by rw [hz]; exact Nat.le_of_ble_eq_true rfl) (F 13 (by kernel_rfl) 19 rfl)
      clear F hF hz
      have hJ1 := hJ
      obtain ⟨c0, c1, c2, c3, _, _⟩ := hJ1
      have hh := rfour_any w pages (by omega) (by omega)
      go_simp
      (with_reducible refine hh.mono ?_)
      rintro e' w' ⟨rfl, hb⟩
      go_simp
      exact hK _ _ (hJ.below hb) hb rfl
    refine Inv.from_cons _ _ _ _ rfl (fun _ a w hJ hF F K hK => ?_) ?_
    · have hz : a.tmps.size = 28 := hF.size
      have e17 : a.tmps[17]? = some (.string (tx (be4 root.toNat ++ be4 free.toNat))) := Inv2.some_slot (by rw [hz]; exact Nat.le_of_ble_eq_true rfl) (F 11 (by kernel_rfl) 17 rfl)
      have e20 : a.tmps[20]? = some (.string (tx (be4 pages.toNat))) := Inv2.some_slot (by rw [hz]; exact Nat.le_of_ble_eq_true rfl) (F 14 (by kernel_rfl) 20 rfl)
      clear F hF hz
      have hJ1 := hJ
      obtain ⟨c0, c1, c2, c3, _, _⟩ := hJ1
      have htx : tx (be4 root.toNat ++ be4 free.toNat) ++ tx (be4 pages.toNat) = tx (be4 root.toNat ++ be4 free.toNat ++ be4 pages.toNat) := tx_append _ _
      go_simp
      exact hK (.string (tx (be4 root.toNat ++ be4 free.toNat ++ be4 pages.toNat))) _ hJ (Below.refl _ _) rfl
    refine Inv.from_cons _ _ _ _ rfl (fun _ a w hJ hF F K hK => ?_) ?_
    · have hz : a.tmps.size = 28 := hF.size
      have e21 : a.tmps[21]? = some (.string (tx (be4 root.toNat ++ be4 free.toNat ++ be4 pages.toNat))) := Inv2.some_slot (by rw [hz]; exact Nat.le_of_ble_eq_true rfl) (F 15 (by kernel_rfl) 21 rfl)
      clear F hF hz
      have hJ1 := hJ
      obtain ⟨c0, c1, c2, c3, _, _⟩ := hJ1
      go_simp
      exact hK _ _ (hJ.below (al _ _)) (al _ _) (slc_new w _)
    refine Inv.from_cons _ _ _ _ rfl (fun _ a w hJ hF F K hK => ?_) ?_
    · have hz : a.tmps.size = 28 := hF.size
      have e8 : a.tmps[8]? = some (.int .i64 (ep % 2)) := Inv2.some_slot (by rw [hz]; exact Nat.le_of_ble_eq_true rfl) (F 2 (by kernel_rfl) 8 rfl)
      have e10 : a.tmps[10]? = some (.int .i64 ep) := Inv2.some_slot (by rw [hz]; exact Nat.le_of_ble_eq_true rfl) (F 4 (by kernel_rfl) 10 rfl)
      obtain ⟨x22, e22, f16⟩ : ∃ x, a.tmps[22]? = some x ∧ SlC ⟨ep, root, free, pages⟩ x w := ⟨_, Inv2.some_slot (by rw [hz]; exact Nat.le_of_ble_eq_true rfl) rfl, F 16 (by kernel_rfl) 22 rfl⟩
      clear F hF hz
      have hJ1 := hJ
      obtain ⟨c0, c1, c2, c3, _, _⟩ := hJ1
      obtain ⟨A, c, rfl, hrow⟩ := f16
      go_simp
      exact hK _ _ hJ (Below.refl _ _) ⟨A, c, rfl, hrow⟩
    refine Inv.from_cons _ _ _ _ rfl (fun _ a w hJ hF F K hK => ?_) ?_
    · have hz : a.tmps.size = 28 := hF.size
      have e20 : a.tmps[20]? = some (.string (tx (be4 pages.toNat))) := Inv2.some_slot (by rw [hz]; exact Nat.le_of_ble_eq_true rfl) (F 14 (by kernel_rfl) 20 rfl)
      obtain ⟨x23, e23, f17⟩ : ∃ x, a.tmps[23]? = some x ∧ PvC ⟨ep, root, free, pages⟩ x w := ⟨_, Inv2.some_slot (by rw [hz]; exact Nat.le_of_ble_eq_true rfl) rfl, F 17 (by kernel_rfl) 23 rfl⟩
      clear F hF hz
      have hJ1 := hJ
      obtain ⟨c0, c1, c2, c3, _, _⟩ := hJ1
      obtain ⟨A, c, rfl, hrow⟩ := f17
      have hh := PageRefPut.rput_good w (pg ⟨ep, root, free, pages⟩) A c hrow (by simp [pg]) (by intro q hq; simp [pg] at hq; subst hq; rw [cell_size]; omega) (by rw [pg_room]; omega) (pg_ok HOK.out)
      go_simp
      (with_reducible refine hh.mono ?_)
      rintro e' w' ⟨rfl, hb⟩
      go_simp
      exact hK _ _ (hJ.below hb) hb rfl
    refine Inv.from_cons _ _ _ _ rfl (fun _ a w hJ hF F K hK => ?_) ?_
    · have hz : a.tmps.size = 28 := hF.size
      have e24 : a.tmps[24]? = some (.tuple #[.string (tx (sbytes ⟨ep, root, free, pages⟩)), .int .i64 0]) := Inv2.some_slot (by rw [hz]; exact Nat.le_of_ble_eq_true rfl) (F 18 (by kernel_rfl) 24 rfl)
      clear F hF hz
      have hJ1 := hJ
      obtain ⟨c0, c1, c2, c3, _, _⟩ := hJ1
      go_simp
      exact hK (.tuple #[.string (tx (sbytes ⟨ep, root, free, pages⟩)), .int .i64 0]) _ hJ (Below.refl _ _) rfl
    refine Inv.from_cons _ _ _ _ rfl (fun _ a w hJ hF F K hK => ?_) ?_
    · have hz : a.tmps.size = 28 := hF.size
      have e5 : a.tmps[5]? = some (.tuple #[.string (tx (sbytes ⟨ep, root, free, pages⟩)), .int .i64 0]) := Inv2.some_slot (by rw [hz]; exact Nat.le_of_ble_eq_true rfl) (F 19 (by kernel_rfl) 5 rfl)
      clear F hF hz
      have hJ1 := hJ
      obtain ⟨c0, c1, c2, c3, _, _⟩ := hJ1
      go_simp
      exact hK (.string (tx (sbytes ⟨ep, root, free, pages⟩))) _ hJ (Below.refl _ _) rfl
    refine Inv.from_cons _ _ _ _ rfl (fun _ a w hJ hF F K hK => ?_) ?_
    · have hz : a.tmps.size = 28 := hF.size
      have e5 : a.tmps[5]? = some (.tuple #[.string (tx (sbytes ⟨ep, root, free, pages⟩)), .int .i64 0]) := Inv2.some_slot (by rw [hz]; exact Nat.le_of_ble_eq_true rfl) (F 19 (by kernel_rfl) 5 rfl)
      clear F hF hz
      have hJ1 := hJ
      obtain ⟨c0, c1, c2, c3, _, _⟩ := hJ1
      go_simp
      exact hK (.int .i64 0) _ hJ (Below.refl _ _) rfl
    refine Inv.from_cons _ _ _ _ rfl (fun _ a w hJ hF F K hK => ?_) ?_
    · have hz : a.tmps.size = 28 := hF.size
      have e6 : a.tmps[6]? = some (.pointer (some ⟨W.heap.size, 0, none⟩)) := Inv2.some_slot (by rw [hz]; exact Nat.le_of_ble_eq_true rfl) (F 0 (by kernel_rfl) 6 rfl)
      have e7 : a.tmps[7]? = some (.int .i64 ep) := Inv2.some_slot (by rw [hz]; exact Nat.le_of_ble_eq_true rfl) (F 1 (by kernel_rfl) 7 rfl)
      have e8 : a.tmps[8]? = some (.int .i64 (ep % 2)) := Inv2.some_slot (by rw [hz]; exact Nat.le_of_ble_eq_true rfl) (F 2 (by kernel_rfl) 8 rfl)
      have e9 : a.tmps[9]? = some (.pointer (some ⟨W.heap.size, 0, none⟩)) := Inv2.some_slot (by rw [hz]; exact Nat.le_of_ble_eq_true rfl) (F 3 (by kernel_rfl) 9 rfl)
      have e10 : a.tmps[10]? = some (.int .i64 ep) := Inv2.some_slot (by rw [hz]; exact Nat.le_of_ble_eq_true rfl) (F 4 (by kernel_rfl) 10 rfl)
      have e11 : a.tmps[11]? = some (.pointer (some ⟨W.heap.size, 1, none⟩)) := Inv2.some_slot (by rw [hz]; exact Nat.le_of_ble_eq_true rfl) (F 5 (by kernel_rfl) 11 rfl)
      have e12 : a.tmps[12]? = some (.int .i64 root) := Inv2.some_slot (by rw [hz]; exact Nat.le_of_ble_eq_true rfl) (F 6 (by kernel_rfl) 12 rfl)
      have e13 : a.tmps[13]? = some (.string (tx (be4 root.toNat))) := Inv2.some_slot (by rw [hz]; exact Nat.le_of_ble_eq_true rfl) (F 7 (by kernel_rfl) 13 rfl)
      have e14 : a.tmps[14]? = some (.pointer (some ⟨W.heap.size, 2, none⟩)) := Inv2.some_slot (by rw [hz]; exact Nat.le_of_ble_eq_true rfl) (F 8 (by kernel_rfl) 14 rfl)
      have e15 : a.tmps[15]? = some (.int .i64 free) := Inv2.some_slot (by rw [hz]; exact Nat.le_of_ble_eq_true rfl) (F 9 (by kernel_rfl) 15 rfl)
      have e16 : a.tmps[16]? = some (.string (tx (be4 free.toNat))) := Inv2.some_slot (by rw [hz]; exact Nat.le_of_ble_eq_true rfl) (F 10 (by kernel_rfl) 16 rfl)
      have e17 : a.tmps[17]? = some (.string (tx (be4 root.toNat ++ be4 free.toNat))) := Inv2.some_slot (by rw [hz]; exact Nat.le_of_ble_eq_true rfl) (F 11 (by kernel_rfl) 17 rfl)
      have e18 : a.tmps[18]? = some (.pointer (some ⟨W.heap.size, 3, none⟩)) := Inv2.some_slot (by rw [hz]; exact Nat.le_of_ble_eq_true rfl) (F 12 (by kernel_rfl) 18 rfl)
      have e19 : a.tmps[19]? = some (.int .i64 pages) := Inv2.some_slot (by rw [hz]; exact Nat.le_of_ble_eq_true rfl) (F 13 (by kernel_rfl) 19 rfl)
      have e20 : a.tmps[20]? = some (.string (tx (be4 pages.toNat))) := Inv2.some_slot (by rw [hz]; exact Nat.le_of_ble_eq_true rfl) (F 14 (by kernel_rfl) 20 rfl)
      have e21 : a.tmps[21]? = some (.string (tx (be4 root.toNat ++ be4 free.toNat ++ be4 pages.toNat))) := Inv2.some_slot (by rw [hz]; exact Nat.le_of_ble_eq_true rfl) (F 15 (by kernel_rfl) 21 rfl)
      obtain ⟨x22, e22, f16⟩ : ∃ x, a.tmps[22]? = some x ∧ SlC ⟨ep, root, free, pages⟩ x w := ⟨_, Inv2.some_slot (by rw [hz]; exact Nat.le_of_ble_eq_true rfl) rfl, F 16 (by kernel_rfl) 22 rfl⟩
      obtain ⟨x23, e23, f17⟩ : ∃ x, a.tmps[23]? = some x ∧ PvC ⟨ep, root, free, pages⟩ x w := ⟨_, Inv2.some_slot (by rw [hz]; exact Nat.le_of_ble_eq_true rfl) rfl, F 17 (by kernel_rfl) 23 rfl⟩
      have e24 : a.tmps[24]? = some (.tuple #[.string (tx (sbytes ⟨ep, root, free, pages⟩)), .int .i64 0]) := Inv2.some_slot (by rw [hz]; exact Nat.le_of_ble_eq_true rfl) (F 18 (by kernel_rfl) 24 rfl)
      have e5 : a.tmps[5]? = some (.tuple #[.string (tx (sbytes ⟨ep, root, free, pages⟩)), .int .i64 0]) := Inv2.some_slot (by rw [hz]; exact Nat.le_of_ble_eq_true rfl) (F 19 (by kernel_rfl) 5 rfl)
      have e25 : a.tmps[25]? = some (.string (tx (sbytes ⟨ep, root, free, pages⟩))) := Inv2.some_slot (by rw [hz]; exact Nat.le_of_ble_eq_true rfl) (F 20 (by kernel_rfl) 25 rfl)
      clear F hF hz
      have hJ1 := hJ
      obtain ⟨c0, c1, c2, c3, _, _⟩ := hJ1
      go_simp
      exact hK (.string (tx (sbytes ⟨ep, root, free, pages⟩))) _ hJ (Below.refl _ _) rfl
    refine Inv.from_skip _ _ _ _ rfl ?_
    exact Inv.from_end _ _ _ _ (by decide +kernel)
  · intro o ho a w hJ hF F K hK
    injection (show some _ = some o from ho) with ho
    subst ho
    obtain ⟨f, hf⟩ : ∃ f : Nat → Value, ∀ i, a.tmps.getD i undef = f i := ⟨_, fun _ => rfl⟩
    have g1 : f 1 = (.pointer (some ⟨W.heap.size, 0, none⟩)) := (hf 1).symm.trans (hF.slot 1 (by kernel_rfl))
    have g6 : f 6 = (.pointer (some ⟨W.heap.size, 0, none⟩)) := (hf 6).symm.trans (F 0 (by decide) 6 rfl)
    have g7 : f 7 = (.int .i64 ep) := (hf 7).symm.trans (F 1 (by decide) 7 rfl)
    have g8 : f 8 = (.int .i64 (ep % 2)) := (hf 8).symm.trans (F 2 (by decide) 8 rfl)
    have g9 : f 9 = (.pointer (some ⟨W.heap.size, 0, none⟩)) := (hf 9).symm.trans (F 3 (by decide) 9 rfl)
    have g10 : f 10 = (.int .i64 ep) := (hf 10).symm.trans (F 4 (by decide) 10 rfl)
    have g11 : f 11 = (.pointer (some ⟨W.heap.size, 1, none⟩)) := (hf 11).symm.trans (F 5 (by decide) 11 rfl)
    have g12 : f 12 = (.int .i64 root) := (hf 12).symm.trans (F 6 (by decide) 12 rfl)
    have g13 : f 13 = (.string (tx (be4 root.toNat))) := (hf 13).symm.trans (F 7 (by decide) 13 rfl)
    have g14 : f 14 = (.pointer (some ⟨W.heap.size, 2, none⟩)) := (hf 14).symm.trans (F 8 (by decide) 14 rfl)
    have g15 : f 15 = (.int .i64 free) := (hf 15).symm.trans (F 9 (by decide) 15 rfl)
    have g16 : f 16 = (.string (tx (be4 free.toNat))) := (hf 16).symm.trans (F 10 (by decide) 16 rfl)
    have g17 : f 17 = (.string (tx (be4 root.toNat ++ be4 free.toNat))) := (hf 17).symm.trans (F 11 (by decide) 17 rfl)
    have g18 : f 18 = (.pointer (some ⟨W.heap.size, 3, none⟩)) := (hf 18).symm.trans (F 12 (by decide) 18 rfl)
    have g19 : f 19 = (.int .i64 pages) := (hf 19).symm.trans (F 13 (by decide) 19 rfl)
    have g20 : f 20 = (.string (tx (be4 pages.toNat))) := (hf 20).symm.trans (F 14 (by decide) 20 rfl)
    have g21 : f 21 = (.string (tx (be4 root.toNat ++ be4 free.toNat ++ be4 pages.toNat))) := (hf 21).symm.trans (F 15 (by decide) 21 rfl)
    obtain ⟨x22, g22⟩ : ∃ x, f 22 = x := ⟨_, rfl⟩
    have f16 : SlC ⟨ep, root, free, pages⟩ x22 w := by rw [← g22, ← hf 22]; exact F 16 (by decide) 22 rfl
    obtain ⟨x23, g23⟩ : ∃ x, f 23 = x := ⟨_, rfl⟩
    have f17 : PvC ⟨ep, root, free, pages⟩ x23 w := by rw [← g23, ← hf 23]; exact F 17 (by decide) 23 rfl
    have g24 : f 24 = (.tuple #[.string (tx (sbytes ⟨ep, root, free, pages⟩)), .int .i64 0]) := (hf 24).symm.trans (F 18 (by decide) 24 rfl)
    have g5 : f 5 = (.tuple #[.string (tx (sbytes ⟨ep, root, free, pages⟩)), .int .i64 0]) := (hf 5).symm.trans (F 19 (by decide) 5 rfl)
    have g25 : f 25 = (.string (tx (sbytes ⟨ep, root, free, pages⟩))) := (hf 25).symm.trans (F 20 (by decide) 25 rfl)
    have g26 : f 26 = (.int .i64 0) := (hf 26).symm.trans (F 21 (by decide) 26 rfl)
    have g3 : f 3 = (.string (tx (sbytes ⟨ep, root, free, pages⟩))) := (hf 3).symm.trans (F 22 (by decide) 3 rfl)
    have ha := Frames.frame (show a.tmps.size = 28 from hF.size) hF.defers hf (l := [f 0, f 1, f 2, f 3, f 4, f 5, f 6, f 7, f 8, f 9, f 10, f 11, f 12, f 13, f 14, f 15, f 16, f 17, f 18, f 19, f 20, f 21, f 22, f 23, f 24, f 25, f 26, f 27]) rfl
    simp only [g1, g6, g7, g8, g9, g10, g11, g12, g13, g14, g15, g16, g17, g18, g19, g20, g21, g22, g23, g24, g5, g25, g26, g3] at ha
    clear F hF hf g1 g6 g7 g8 g9 g10 g11 g12 g13 g14 g15 g16 g17 g18 g19 g20 g21 g22 g23 g24 g5 g25 g26 g3
    subst ha
    have hJ1 := hJ
    obtain ⟨c0, c1, c2, c3, _, _⟩ := hJ1
    have HB := Lib.hid hJ.base
    clear hJ f16 f17
    go_simp
    refine hK _ _ ?_
    clear hK
    go_wp2_with fail
    go_ret
    exact ⟨rfl, HB.out⟩
  · intro hq; exact absurd hq (by decide +kernel)
end Go.Proofs.Ytcnblgienombeaa.SuperRefPut
