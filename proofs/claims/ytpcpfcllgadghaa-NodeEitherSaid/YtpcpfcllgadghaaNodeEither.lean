/- The walk of NodeEither. -/
import Derived.Test.YtpcpfcllgadghaaNodeRooms
import Derived.Test.YtpcpfcllgadghaaNodeRefCheck
import Derived.Test.YtpcpfcllgadghaaNodeStore
import Derived.Test.YtpcpfcllgadghaaInv2
import Derived.Test.YtpcpfcllgadghaaLits
namespace Go.Proofs.Ytpcpfcllgadghaa.NodeEither
open Go.RowKit Base NodePlain NodeRead NodeSlice NodeCheck NodeBox NodeEnt NodeCells NodeRd NodeOf2 NodeOf3 NodeFind NodeAwake NodePlumb NodeRooms NodeRefCheck NodeLeaf NodeStore NodeSame

set_option maxRecDepth 100000 in
set_option maxHeartbeats 12800000 in
theorem NodeEither_walk (n : Nd) (h : Hd) (ka kb sx sy : ByteArray) (W : World) (hL : Lay W n h) (hk : n.keys.length ≤ maxLen) (hv : n.vals.length ≤ maxLen) (_hka : ka.size ≤ maxLen) (_hkb : kb.size ≤ maxLen) :
    Calls Try.prog 9 #[nv n h, .string ka, .string kb, .agg #[.string sx, .string sy]] W (Law W) := by
  obtain ⟨fb, hfb⟩ := pick_b (Few n)
  obtain ⟨er, her⟩ := chk_any n
  have HER := Lib.hid her
  have HCW := Lib.hid (fun w' (s : BegV W n h sx sy w') (hsm : Small n) => rcheck_any w' n h s.2.1 hsm er her)
  have HS := Lib.hid (begV (sx := sx) (sy := sy) (t := 50) hL)
  have HFW := Lib.hid (fun w' (s : BegV W n h sx sy w') => NodeRoom.few_any w' n h s.2.1 hk hv fb hfb)
  clear hk hv hL her
  go_enter Try.func9, Try.ntmps9
  go_wp2_with fail
  refine (awake_any _).mono ?_
  rintro e w1 ⟨rfl, b1⟩
  have s1 := HS.out w1 b1
  clear HS b1
  obtain ⟨c0, c1, c2, c3, _⟩ := s1.1
  obtain ⟨v0, v1, _⟩ := s1.2.2.2
  go_wp2_with fail
  refine (HFW.out w1 s1).mono ?_
  rintro e w2 ⟨rfl, b2⟩
  have s2 := s1.below b2
  clear s1 b2 HFW c0 c1 c2 c3 v0 v1
  cases fb with
  | false =>
    clear hfb
    go_wp2_with fail
    refine (awake_any w2).mono ?_
    rintro e w9 ⟨rfl, b9⟩
    have s9 := s2.below b9
    go_wp2_with fail
    go_ret
    exact ⟨rfl, s9.2.2.1⟩
  | true =>
    have hfew := hfb.1 rfl
    have hsm : Small n := hfew.small
    clear hfb
    obtain ⟨c0, c1, c2, c3, _⟩ := s2.1
    obtain ⟨v0, v1, _⟩ := s2.2.2.2
    go_wp2_with fail
    refine (HCW.out w2 s2 hsm).mono ?_
    rintro e w3 ⟨rfl, b3⟩
    have s3 := s2.below b3
    clear s2 b3 HCW c0 c1 c2 c3 v0 v1
    by_cases he0 : er = 0
    · subst he0
      have hok := (chk_ok HER.out).1 rfl
      clear HER
      cases hleaf : n.leaf with
      | false =>
        obtain ⟨c0, c1, c2, c3, _⟩ := s3.1
        obtain ⟨v0, v1, _⟩ := s3.2.2.2
        rw [hleaf] at c0
        clear hok hfew hsm
        go_wp2_with fail
        refine (awake_any w3).mono ?_
        rintro e w9 ⟨rfl, b9⟩
        have s9 := s3.below b9
        go_wp2_with fail
        go_ret
        exact ⟨rfl, s9.2.2.1⟩
      | true =>
        by_cases hne : ka = kb
        · have heqb : (ka.toList == kb.toList) = true := by rw [hne]; simp
          obtain ⟨c0, c1, c2, c3, _⟩ := s3.1
          obtain ⟨v0, v1, _⟩ := s3.2.2.2
          rw [hleaf] at c0
          clear hok hfew hsm hne
          go_wp2_with fail
          refine (awake_any w3).mono ?_
          rintro e w9 ⟨rfl, b9⟩
          have s9 := s3.below b9
          go_wp2_with fail
          go_ret
          exact ⟨rfl, s9.2.2.1⟩
        · have heqb : (ka.toList == kb.toList) = false := by rw [Str.ba_beq, decide_eq_false_iff_not]; exact hne
          by_cases hzka : 100 < ka.size
          · have hyka : (100 : Int) < (ka.size : Int) := by omega
            clear hzka
            obtain ⟨c0, c1, c2, c3, _⟩ := s3.1
            obtain ⟨v0, v1, _⟩ := s3.2.2.2
            rw [hleaf] at c0
            clear hok hfew hsm
            go_wp2_with fail
            refine (awake_any w3).mono ?_
            rintro e w9 ⟨rfl, b9⟩
            have s9 := s3.below b9
            go_wp2_with fail
            go_ret
            exact ⟨rfl, s9.2.2.1⟩
          · have hyka : ¬ ((100 : Int) < (ka.size : Int)) := by omega
            by_cases hzkb : 100 < kb.size
            · have hykb : (100 : Int) < (kb.size : Int) := by omega
              clear hzkb
              obtain ⟨c0, c1, c2, c3, _⟩ := s3.1
              obtain ⟨v0, v1, _⟩ := s3.2.2.2
              rw [hleaf] at c0
              clear hok hfew hsm
              go_wp2_with fail
              refine (awake_any w3).mono ?_
              rintro e w9 ⟨rfl, b9⟩
              have s9 := s3.below b9
              go_wp2_with fail
              go_ret
              exact ⟨rfl, s9.2.2.1⟩
            · have hykb : ¬ ((100 : Int) < (kb.size : Int)) := by omega
              by_cases hzsx : 100 < sx.size
              · have hysx : (100 : Int) < (sx.size : Int) := by omega
                clear hzsx
                obtain ⟨c0, c1, c2, c3, _⟩ := s3.1
                obtain ⟨v0, v1, _⟩ := s3.2.2.2
                rw [hleaf] at c0
                clear hok hfew hsm
                go_wp2_with fail
                refine (awake_any w3).mono ?_
                rintro e w9 ⟨rfl, b9⟩
                have s9 := s3.below b9
                go_wp2_with fail
                go_ret
                exact ⟨rfl, s9.2.2.1⟩
              · have hysx : ¬ ((100 : Int) < (sx.size : Int)) := by omega
                by_cases hzsy : 100 < sy.size
                · have hysy : (100 : Int) < (sy.size : Int) := by omega
                  clear hzsy
                  obtain ⟨c0, c1, c2, c3, _⟩ := s3.1
                  obtain ⟨v0, v1, _⟩ := s3.2.2.2
                  rw [hleaf] at c0
                  clear hok hfew hsm
                  go_wp2_with fail
                  refine (awake_any w3).mono ?_
                  rintro e w9 ⟨rfl, b9⟩
                  have s9 := s3.below b9
                  go_wp2_with fail
                  go_ret
                  exact ⟨rfl, s9.2.2.1⟩
                · have hysy : ¬ ((100 : Int) < (sy.size : Int)) := by omega
                  obtain ⟨l, hnl, hlf⟩ := leaf_pairs hok hleaf hfew
                  have HNL := Lib.hid hnl
                  have HLF0 := Lib.hid hlf
                  have HSZ := Lib.hid (show ka.size ≤ 300 ∧ kb.size ≤ 300 ∧ sx.size ≤ 300 ∧ sy.size ≤ 300 from ⟨by omega, by omega, by omega, by omega⟩)
                  have HNE := Lib.hid hne
                  obtain ⟨c0, c1, c2, c3, _⟩ := s3.1
                  obtain ⟨v0, v1, _⟩ := s3.2.2.2
                  rw [hleaf] at c0
                  go_wp2_with fail
                  clear c0 c1 c2 c3 v0 v1
                  clear hleaf hnl hlf hok hsm hfew hne heqb hyka hykb hysx hysy hzka hzkb hzsx hzsy
                  have hJ0 : (fun w' : World => BegV W n h sx sy w') (World.drew w3) := s3.below (Below.refl _ _).drew
                  clear s3
                  refine wp_region_any (by kernel_rfl) ?_
                  change wpAny _ _ _ _ _ _ _ (World.drew _)
                  refine Inv.inv_any (fun (i : Nat) (v : Value) (w : World) => match i with | 0 => v = nv n h | 1 => v = .string ka | 2 => v = .pointer (some ⟨W.heap.size + 1, 0, none⟩) | 3 => v = .string sx | 4 => Lv (ins ka sx l) v w | 5 => v = .string kb | 6 => v = .pointer (some ⟨W.heap.size + 1, 1, none⟩) | 7 => v = .string sy | 8 => Lv (ins kb sy (ins ka sx l)) v w | 9 => Nz (W.heap.size + 2) v w | _ => True) (fun w' : World => BegV W n h sx sy w') _ 10 90 rfl rfl rfl (by kernel_rfl) (by kernel_rfl) hJ0 ?_ ?_ ?_ ?_
                  · intro j v w w' h hb
                    match j, h with
                    | 0, h => exact h
                    | 1, h => exact h
                    | 2, h => exact h
                    | 3, h => exact h
                    | 4, h => exact Lv.below h hb
                    | 5, h => exact h
                    | 6, h => exact h
                    | 7, h => exact h
                    | 8, h => exact Lv.below h hb
                    | 9, h => exact Nz.below h hb
                    | 10, _ => exact trivial
                    | (_ + 11), _ => exact trivial
                  · skip
                    refine Inv.from_cons _ _ _ _ rfl (fun _ a w hJ hF F K hK => ?_) ?_
                    · have hz : a.tmps.size = 90 := hF.size
                      have e4 : a.tmps[4]? = some (.pointer (some ⟨W.heap.size, 0, none⟩)) := Inv2.some_slot (by rw [hz]; exact Nat.le_of_ble_eq_true rfl) (hF.slot 4 (by kernel_rfl))
                      clear F hF hz
                      have hJ1 := hJ
                      obtain ⟨⟨c0, c1, c2, c3, _⟩, _, _, v0, v1, _⟩ := hJ1
                      go_simp
                      exact hK (nv n h) _ hJ (Below.refl _ _) rfl
                    refine Inv.from_cons _ _ _ _ rfl (fun _ a w hJ hF F K hK => ?_) ?_
                    · have hz : a.tmps.size = 90 := hF.size
                      have e1 : a.tmps[1]? = some (.string ka) := Inv2.some_slot (by rw [hz]; exact Nat.le_of_ble_eq_true rfl) (hF.slot 1 (by kernel_rfl))
                      clear F hF hz
                      have hJ1 := hJ
                      obtain ⟨⟨c0, c1, c2, c3, _⟩, _, _, v0, v1, _⟩ := hJ1
                      go_simp
                      exact hK (.string ka) _ hJ (Below.refl _ _) rfl
                    refine Inv.from_cons _ _ _ _ rfl (fun _ a w hJ hF F K hK => ?_) ?_
                    · have hz : a.tmps.size = 90 := hF.size
                      have e7 : a.tmps[7]? = some (.pointer (some ⟨W.heap.size + 1, 0, none⟩)) := Inv2.some_slot (by rw [hz]; exact Nat.le_of_ble_eq_true rfl) (hF.slot 7 (by kernel_rfl))
                      clear F hF hz
                      have hJ1 := hJ
                      obtain ⟨⟨c0, c1, c2, c3, _⟩, _, _, v0, v1, _⟩ := hJ1
                      go_simp
                      exact hK (.pointer (some ⟨W.heap.size + 1, 0, none⟩)) _ hJ (Below.refl _ _) rfl
                    refine Inv.from_cons _ _ _ _ rfl (fun _ a w hJ hF F K hK => ?_) ?_
                    · have hz : a.tmps.size = 90 := hF.size
                      have e58 : a.tmps[58]? = some (.pointer (some ⟨W.heap.size + 1, 0, none⟩)) := Inv2.some_slot (by rw [hz]; exact Nat.le_of_ble_eq_true rfl) (F 2 (by kernel_rfl) 58 rfl)
                      clear F hF hz
                      have hJ1 := hJ
                      obtain ⟨⟨c0, c1, c2, c3, _⟩, _, _, v0, v1, _⟩ := hJ1
                      go_simp
                      exact hK (.string sx) _ hJ (Below.refl _ _) rfl
                    refine Inv.from_cons _ _ _ _ rfl (fun _ a w hJ hF F K hK => ?_) ?_
                    · have hz : a.tmps.size = 90 := hF.size
                      have e56 : a.tmps[56]? = some (nv n h) := Inv2.some_slot (by rw [hz]; exact Nat.le_of_ble_eq_true rfl) (F 0 (by kernel_rfl) 56 rfl)
                      have e57 : a.tmps[57]? = some (.string ka) := Inv2.some_slot (by rw [hz]; exact Nat.le_of_ble_eq_true rfl) (F 1 (by kernel_rfl) 57 rfl)
                      have e59 : a.tmps[59]? = some (.string sx) := Inv2.some_slot (by rw [hz]; exact Nat.le_of_ble_eq_true rfl) (F 3 (by kernel_rfl) 59 rfl)
                      clear F hF hz
                      have hJ1 := hJ
                      obtain ⟨⟨c0, c1, c2, c3, _⟩, _, _, v0, v1, _⟩ := hJ1
                      have hh := put_lf w l n h ka sx HNL.out HLF0.out (by omega) hJ.2.1
                      go_simp
                      (with_reducible refine hh.mono ?_)
                      rintro e w' ⟨v, rfl, hv, hb⟩
                      go_simp
                      exact hK _ _ (hJ.below hb) hb hv
                    refine Inv.from_cons _ _ _ _ rfl (fun _ a w hJ hF F K hK => ?_) ?_
                    · have hz : a.tmps.size = 90 := hF.size
                      have e2 : a.tmps[2]? = some (.string kb) := Inv2.some_slot (by rw [hz]; exact Nat.le_of_ble_eq_true rfl) (hF.slot 2 (by kernel_rfl))
                      clear F hF hz
                      have hJ1 := hJ
                      obtain ⟨⟨c0, c1, c2, c3, _⟩, _, _, v0, v1, _⟩ := hJ1
                      go_simp
                      exact hK (.string kb) _ hJ (Below.refl _ _) rfl
                    refine Inv.from_cons _ _ _ _ rfl (fun _ a w hJ hF F K hK => ?_) ?_
                    · have hz : a.tmps.size = 90 := hF.size
                      have e7 : a.tmps[7]? = some (.pointer (some ⟨W.heap.size + 1, 0, none⟩)) := Inv2.some_slot (by rw [hz]; exact Nat.le_of_ble_eq_true rfl) (hF.slot 7 (by kernel_rfl))
                      clear F hF hz
                      have hJ1 := hJ
                      obtain ⟨⟨c0, c1, c2, c3, _⟩, _, _, v0, v1, _⟩ := hJ1
                      go_simp
                      exact hK (.pointer (some ⟨W.heap.size + 1, 1, none⟩)) _ hJ (Below.refl _ _) rfl
                    refine Inv.from_cons _ _ _ _ rfl (fun _ a w hJ hF F K hK => ?_) ?_
                    · have hz : a.tmps.size = 90 := hF.size
                      have e62 : a.tmps[62]? = some (.pointer (some ⟨W.heap.size + 1, 1, none⟩)) := Inv2.some_slot (by rw [hz]; exact Nat.le_of_ble_eq_true rfl) (F 6 (by kernel_rfl) 62 rfl)
                      clear F hF hz
                      have hJ1 := hJ
                      obtain ⟨⟨c0, c1, c2, c3, _⟩, _, _, v0, v1, _⟩ := hJ1
                      go_simp
                      exact hK (.string sy) _ hJ (Below.refl _ _) rfl
                    refine Inv.from_cons _ _ _ _ rfl (fun _ a w hJ hF F K hK => ?_) ?_
                    · have hz : a.tmps.size = 90 := hF.size
                      obtain ⟨x60, e60, f4⟩ : ∃ x, a.tmps[60]? = some x ∧ Lv (ins ka sx l) x w := ⟨_, Inv2.some_slot (by rw [hz]; exact Nat.le_of_ble_eq_true rfl) rfl, F 4 (by kernel_rfl) 60 rfl⟩
                      have e61 : a.tmps[61]? = some (.string kb) := Inv2.some_slot (by rw [hz]; exact Nat.le_of_ble_eq_true rfl) (F 5 (by kernel_rfl) 61 rfl)
                      have e63 : a.tmps[63]? = some (.string sy) := Inv2.some_slot (by rw [hz]; exact Nat.le_of_ble_eq_true rfl) (F 7 (by kernel_rfl) 63 rfl)
                      clear F hF hz
                      have hJ1 := hJ
                      obtain ⟨⟨c0, c1, c2, c3, _⟩, _, _, v0, v1, _⟩ := hJ1
                      obtain ⟨m4, h4, rfl, q4, l4⟩ := f4
                      have Q4 := Lib.hid q4
                      clear q4
                      have hh := put_lf w _ m4 h4 kb sy Q4.out (HLF0.out.ins (HSZ.out.1) (HSZ.out.2.2.1)) (by omega) l4
                      go_simp
                      (with_reducible refine hh.mono ?_)
                      rintro e w' ⟨v, rfl, hv, hb⟩
                      go_simp
                      exact hK _ _ (hJ.below hb) hb hv
                    refine Inv.from_cons _ _ _ _ rfl (fun _ a w hJ hF F K hK => ?_) ?_
                    · have hz : a.tmps.size = 90 := hF.size
                      clear F hF hz
                      have hJ1 := hJ
                      obtain ⟨⟨c0, c1, c2, c3, _⟩, _, _, v0, v1, _⟩ := hJ1
                      go_simp
                      exact hK _ _ (hJ.below (al _ _)) (al _ _) ⟨_, rfl, hJ.2.2.2.2.2, at_new _ _ _⟩
                    refine Inv.from_skip _ _ _ _ rfl ?_
                    exact Inv.from_end _ _ _ _ (by decide +kernel)
                  · intro o ho a w hJ hF F K hK
                    injection (show some _ = some o from ho) with ho
                    subst ho
                    obtain ⟨⟨l⟩, ds⟩ := a
                    have hsz : l.length = 90 := hF.size
                    obtain ⟨x0, x1, x2, x3, x4, x5, x6, x7, x8, x9, x10, x11, x12, x13, x14, x15, x16, x17, x18, x19, x20, x21, x22, x23, x24, x25, x26, x27, x28, x29, x30, x31, x32, x33, x34, x35, x36, x37, x38, x39, x40, x41, x42, x43, x44, x45, x46, x47, x48, x49, x50, x51, x52, x53, x54, x55, x56, x57, x58, x59, x60, x61, x62, x63, x64, x65, x66, x67, x68, x69, x70, x71, x72, x73, x74, x75, x76, x77, x78, x79, x80, x81, x82, x83, x84, x85, x86, x87, x88, x89, rfl⟩ := Lits.lit90 l hsz
                    · skip
                      obtain rfl : ds = [] := hF.defers
                      obtain rfl : x1 = .string ka := hF.slot 1 (by kernel_rfl)
                      obtain rfl : x2 = .string kb := hF.slot 2 (by kernel_rfl)
                      obtain rfl : x4 = .pointer (some ⟨W.heap.size, 0, none⟩) := hF.slot 4 (by kernel_rfl)
                      obtain rfl : x7 = .pointer (some ⟨W.heap.size + 1, 0, none⟩) := hF.slot 7 (by kernel_rfl)
                      have f0 : x56 = nv n h := F 0 (by decide) 56 rfl
                      have f1 : x57 = .string ka := F 1 (by decide) 57 rfl
                      have f2 : x58 = .pointer (some ⟨W.heap.size + 1, 0, none⟩) := F 2 (by decide) 58 rfl
                      have f3 : x59 = .string sx := F 3 (by decide) 59 rfl
                      have f4 : Lv (ins ka sx l) x60 w := F 4 (by decide) 60 rfl
                      have f5 : x61 = .string kb := F 5 (by decide) 61 rfl
                      have f6 : x62 = .pointer (some ⟨W.heap.size + 1, 1, none⟩) := F 6 (by decide) 62 rfl
                      have f7 : x63 = .string sy := F 7 (by decide) 63 rfl
                      have f8 : Lv (ins kb sy (ins ka sx l)) x64 w := F 8 (by decide) 64 rfl
                      have f9 : Nz (W.heap.size + 2) x9 w := F 9 (by decide) 9 rfl
                      subst f0
                      subst f1
                      subst f2
                      subst f3
                      subst f5
                      subst f6
                      subst f7
                      clear F hF
                      have hJ1 := hJ
                      obtain ⟨⟨c0, c1, c2, c3, _⟩, _, _, v0, v1, _⟩ := hJ1
                      obtain ⟨m8, h8, rfl, q8, l8⟩ := f8
                      have HQ8 := Lib.hid q8
                      clear q8
                      obtain ⟨g9, rfl, hg9, hat⟩ := f9
                      obtain ⟨z0, z1, z2, z3, y0, y1, y2, y3⟩ := hat.f4
                      have s5 := hJ.w4 (a := .bool m8.leaf) (b := .slice h8.K m8.keys.length h8.kc) (c := .slice h8.V m8.vals.length h8.vc) (d := .slice h8.D m8.kids.length h8.dc) hat cs_z hg9
                      have bx9 := bx_at (set4 hat (.bool m8.leaf) (.slice h8.K m8.keys.length h8.kc) (.slice h8.V m8.vals.length h8.vc) (.slice h8.D m8.kids.length h8.dc))
                      have l9 := lay_w4 (a := .bool m8.leaf) (b := .slice h8.K m8.keys.length h8.kc) (c := .slice h8.V m8.vals.length h8.vc) (d := .slice h8.D m8.kids.length h8.dc) l8 hat cs_z
                      go_simp
                      refine hK _ _ ?_
                      clear hK z0 z1 z2 z3 y0 y1 y2 y3 hJ hat l8 c0 c1 c2 c3 v0 v1
                      obtain ⟨v5, hv5⟩ : ∃ v, v = NodeBox.w4 w g9 (.bool m8.leaf) (.slice h8.K m8.keys.length h8.kc) (.slice h8.V m8.vals.length h8.vc) (.slice h8.D m8.kids.length h8.dc) := ⟨_, rfl⟩
                      rw [← hv5] at s5 bx9 l9
                      unfold NodeBox.w4 at hv5
                      have HV5 := Lib.hid hv5
                      clear hv5
                      go_wp2_with fail
                      rw [← HV5.out]
                      clear HV5
                      have hJ0 : (fun w' : World => BegV W n h sx sy w' ∧ Bx w' g9 m8 h8 ∧ Lay w' m8 h8) (World.drew v5) := ⟨s5.below (Below.refl _ _).drew, bx9.below (Below.refl _ _).drew, l9.below (Below.refl _ _).drew⟩
                      clear s5 bx9 l9
                      refine wp_region_any (by kernel_rfl) ?_
                      change wpAny _ _ _ _ _ _ _ (World.drew _)
                      refine Inv.inv_any (fun (i : Nat) (v : Value) (w : World) => match i with | 0 => v = nv n h | 1 => v = .string kb | 2 => v = .pointer (some ⟨W.heap.size + 1, 1, none⟩) | 3 => v = .string sy | 4 => Lv (ins kb sy l) v w | 5 => v = .string ka | 6 => v = .pointer (some ⟨W.heap.size + 1, 0, none⟩) | 7 => v = .string sx | 8 => Lv (ins ka sx (ins kb sy l)) v w | 9 => Nz (g9 + 1) v w | _ => True) (fun w' : World => BegV W n h sx sy w' ∧ Bx w' g9 m8 h8 ∧ Lay w' m8 h8) _ 10 90 rfl rfl rfl (by kernel_rfl) (by kernel_rfl) hJ0 ?_ ?_ ?_ ?_
                      · intro j v w w' h hb
                        match j, h with
                        | 0, h => exact h
                        | 1, h => exact h
                        | 2, h => exact h
                        | 3, h => exact h
                        | 4, h => exact Lv.below h hb
                        | 5, h => exact h
                        | 6, h => exact h
                        | 7, h => exact h
                        | 8, h => exact Lv.below h hb
                        | 9, h => exact Nz.below h hb
                        | 10, _ => exact trivial
                        | (_ + 11), _ => exact trivial
                      · skip
                        refine Inv.from_cons _ _ _ _ rfl (fun _ a w hJ hF F K hK => ?_) ?_
                        · have hz : a.tmps.size = 90 := hF.size
                          have e4 : a.tmps[4]? = some (.pointer (some ⟨W.heap.size, 0, none⟩)) := Inv2.some_slot (by rw [hz]; exact Nat.le_of_ble_eq_true rfl) (hF.slot 4 (by kernel_rfl))
                          clear F hF hz
                          have hJ1 := hJ
                          obtain ⟨⟨⟨c0, c1, c2, c3, _⟩, _, _, v0, v1, _⟩, ⟨d0, d1, d2, d3, _⟩, _⟩ := hJ1
                          go_simp
                          exact hK (nv n h) _ hJ (Below.refl _ _) rfl
                        refine Inv.from_cons _ _ _ _ rfl (fun _ a w hJ hF F K hK => ?_) ?_
                        · have hz : a.tmps.size = 90 := hF.size
                          have e2 : a.tmps[2]? = some (.string kb) := Inv2.some_slot (by rw [hz]; exact Nat.le_of_ble_eq_true rfl) (hF.slot 2 (by kernel_rfl))
                          clear F hF hz
                          have hJ1 := hJ
                          obtain ⟨⟨⟨c0, c1, c2, c3, _⟩, _, _, v0, v1, _⟩, ⟨d0, d1, d2, d3, _⟩, _⟩ := hJ1
                          go_simp
                          exact hK (.string kb) _ hJ (Below.refl _ _) rfl
                        refine Inv.from_cons _ _ _ _ rfl (fun _ a w hJ hF F K hK => ?_) ?_
                        · have hz : a.tmps.size = 90 := hF.size
                          have e7 : a.tmps[7]? = some (.pointer (some ⟨W.heap.size + 1, 0, none⟩)) := Inv2.some_slot (by rw [hz]; exact Nat.le_of_ble_eq_true rfl) (hF.slot 7 (by kernel_rfl))
                          clear F hF hz
                          have hJ1 := hJ
                          obtain ⟨⟨⟨c0, c1, c2, c3, _⟩, _, _, v0, v1, _⟩, ⟨d0, d1, d2, d3, _⟩, _⟩ := hJ1
                          go_simp
                          exact hK (.pointer (some ⟨W.heap.size + 1, 1, none⟩)) _ hJ (Below.refl _ _) rfl
                        refine Inv.from_cons _ _ _ _ rfl (fun _ a w hJ hF F K hK => ?_) ?_
                        · have hz : a.tmps.size = 90 := hF.size
                          have e67 : a.tmps[67]? = some (.pointer (some ⟨W.heap.size + 1, 1, none⟩)) := Inv2.some_slot (by rw [hz]; exact Nat.le_of_ble_eq_true rfl) (F 2 (by kernel_rfl) 67 rfl)
                          clear F hF hz
                          have hJ1 := hJ
                          obtain ⟨⟨⟨c0, c1, c2, c3, _⟩, _, _, v0, v1, _⟩, ⟨d0, d1, d2, d3, _⟩, _⟩ := hJ1
                          go_simp
                          exact hK (.string sy) _ hJ (Below.refl _ _) rfl
                        refine Inv.from_cons _ _ _ _ rfl (fun _ a w hJ hF F K hK => ?_) ?_
                        · have hz : a.tmps.size = 90 := hF.size
                          have e65 : a.tmps[65]? = some (nv n h) := Inv2.some_slot (by rw [hz]; exact Nat.le_of_ble_eq_true rfl) (F 0 (by kernel_rfl) 65 rfl)
                          have e66 : a.tmps[66]? = some (.string kb) := Inv2.some_slot (by rw [hz]; exact Nat.le_of_ble_eq_true rfl) (F 1 (by kernel_rfl) 66 rfl)
                          have e68 : a.tmps[68]? = some (.string sy) := Inv2.some_slot (by rw [hz]; exact Nat.le_of_ble_eq_true rfl) (F 3 (by kernel_rfl) 68 rfl)
                          clear F hF hz
                          have hJ1 := hJ
                          obtain ⟨⟨⟨c0, c1, c2, c3, _⟩, _, _, v0, v1, _⟩, ⟨d0, d1, d2, d3, _⟩, _⟩ := hJ1
                          have hh := put_lf w l n h kb sy HNL.out HLF0.out (by omega) hJ.1.2.1
                          go_simp
                          (with_reducible refine hh.mono ?_)
                          rintro e w' ⟨v, rfl, hv, hb⟩
                          go_simp
                          exact hK _ _ ⟨hJ.1.below hb, hJ.2.1.below hb, hJ.2.2.below hb⟩ hb hv
                        refine Inv.from_cons _ _ _ _ rfl (fun _ a w hJ hF F K hK => ?_) ?_
                        · have hz : a.tmps.size = 90 := hF.size
                          have e1 : a.tmps[1]? = some (.string ka) := Inv2.some_slot (by rw [hz]; exact Nat.le_of_ble_eq_true rfl) (hF.slot 1 (by kernel_rfl))
                          clear F hF hz
                          have hJ1 := hJ
                          obtain ⟨⟨⟨c0, c1, c2, c3, _⟩, _, _, v0, v1, _⟩, ⟨d0, d1, d2, d3, _⟩, _⟩ := hJ1
                          go_simp
                          exact hK (.string ka) _ hJ (Below.refl _ _) rfl
                        refine Inv.from_cons _ _ _ _ rfl (fun _ a w hJ hF F K hK => ?_) ?_
                        · have hz : a.tmps.size = 90 := hF.size
                          have e7 : a.tmps[7]? = some (.pointer (some ⟨W.heap.size + 1, 0, none⟩)) := Inv2.some_slot (by rw [hz]; exact Nat.le_of_ble_eq_true rfl) (hF.slot 7 (by kernel_rfl))
                          clear F hF hz
                          have hJ1 := hJ
                          obtain ⟨⟨⟨c0, c1, c2, c3, _⟩, _, _, v0, v1, _⟩, ⟨d0, d1, d2, d3, _⟩, _⟩ := hJ1
                          go_simp
                          exact hK (.pointer (some ⟨W.heap.size + 1, 0, none⟩)) _ hJ (Below.refl _ _) rfl
                        refine Inv.from_cons _ _ _ _ rfl (fun _ a w hJ hF F K hK => ?_) ?_
                        · have hz : a.tmps.size = 90 := hF.size
                          have e71 : a.tmps[71]? = some (.pointer (some ⟨W.heap.size + 1, 0, none⟩)) := Inv2.some_slot (by rw [hz]; exact Nat.le_of_ble_eq_true rfl) (F 6 (by kernel_rfl) 71 rfl)
                          clear F hF hz
                          have hJ1 := hJ
                          obtain ⟨⟨⟨c0, c1, c2, c3, _⟩, _, _, v0, v1, _⟩, ⟨d0, d1, d2, d3, _⟩, _⟩ := hJ1
                          go_simp
                          exact hK (.string sx) _ hJ (Below.refl _ _) rfl
                        refine Inv.from_cons _ _ _ _ rfl (fun _ a w hJ hF F K hK => ?_) ?_
                        · have hz : a.tmps.size = 90 := hF.size
                          obtain ⟨x69, e69, f4⟩ : ∃ x, a.tmps[69]? = some x ∧ Lv (ins kb sy l) x w := ⟨_, Inv2.some_slot (by rw [hz]; exact Nat.le_of_ble_eq_true rfl) rfl, F 4 (by kernel_rfl) 69 rfl⟩
                          have e70 : a.tmps[70]? = some (.string ka) := Inv2.some_slot (by rw [hz]; exact Nat.le_of_ble_eq_true rfl) (F 5 (by kernel_rfl) 70 rfl)
                          have e72 : a.tmps[72]? = some (.string sx) := Inv2.some_slot (by rw [hz]; exact Nat.le_of_ble_eq_true rfl) (F 7 (by kernel_rfl) 72 rfl)
                          clear F hF hz
                          have hJ1 := hJ
                          obtain ⟨⟨⟨c0, c1, c2, c3, _⟩, _, _, v0, v1, _⟩, ⟨d0, d1, d2, d3, _⟩, _⟩ := hJ1
                          obtain ⟨m4, h4, rfl, q4, l4⟩ := f4
                          have Q4 := Lib.hid q4
                          clear q4
                          have hh := put_lf w _ m4 h4 ka sx Q4.out (HLF0.out.ins (HSZ.out.2.1) (HSZ.out.2.2.2)) (by omega) l4
                          go_simp
                          (with_reducible refine hh.mono ?_)
                          rintro e w' ⟨v, rfl, hv, hb⟩
                          go_simp
                          exact hK _ _ ⟨hJ.1.below hb, hJ.2.1.below hb, hJ.2.2.below hb⟩ hb hv
                        refine Inv.from_cons _ _ _ _ rfl (fun _ a w hJ hF F K hK => ?_) ?_
                        · have hz : a.tmps.size = 90 := hF.size
                          clear F hF hz
                          have hJ1 := hJ
                          obtain ⟨⟨⟨c0, c1, c2, c3, _⟩, _, _, v0, v1, _⟩, ⟨d0, d1, d2, d3, _⟩, _⟩ := hJ1
                          go_simp
                          exact hK _ _ ⟨hJ.1.below (al _ _), hJ.2.1.below (al _ _), hJ.2.2.below (al _ _)⟩ (al _ _) ⟨_, rfl, Nat.lt_of_lt_of_le (Nat.lt_succ_self _) (Nat.succ_le_of_lt hJ.2.1.lt), at_new _ _ _⟩
                        refine Inv.from_skip _ _ _ _ rfl ?_
                        exact Inv.from_end _ _ _ _ (by decide +kernel)
                      · intro o ho a w hJ hF F K hK
                        injection (show some _ = some o from ho) with ho
                        subst ho
                        obtain ⟨⟨l⟩, ds⟩ := a
                        have hsz : l.length = 90 := hF.size
                        obtain ⟨x0, x1, x2, x3, x4, x5, x6, x7, x8, x9, x10, x11, x12, x13, x14, x15, x16, x17, x18, x19, x20, x21, x22, x23, x24, x25, x26, x27, x28, x29, x30, x31, x32, x33, x34, x35, x36, x37, x38, x39, x40, x41, x42, x43, x44, x45, x46, x47, x48, x49, x50, x51, x52, x53, x54, x55, x56, x57, x58, x59, x60, x61, x62, x63, x64, x65, x66, x67, x68, x69, x70, x71, x72, x73, x74, x75, x76, x77, x78, x79, x80, x81, x82, x83, x84, x85, x86, x87, x88, x89, rfl⟩ := Lits.lit90 l hsz
                        · skip
                          obtain rfl : ds = [] := hF.defers
                          obtain rfl : x1 = .string ka := hF.slot 1 (by kernel_rfl)
                          obtain rfl : x2 = .string kb := hF.slot 2 (by kernel_rfl)
                          obtain rfl : x4 = .pointer (some ⟨W.heap.size, 0, none⟩) := hF.slot 4 (by kernel_rfl)
                          obtain rfl : x7 = .pointer (some ⟨W.heap.size + 1, 0, none⟩) := hF.slot 7 (by kernel_rfl)
                          obtain rfl : x9 = .pointer (some ⟨g9, 0, none⟩) := hF.slot 9 (by kernel_rfl)
                          have f0 : x65 = nv n h := F 0 (by decide) 65 rfl
                          have f1 : x66 = .string kb := F 1 (by decide) 66 rfl
                          have f2 : x67 = .pointer (some ⟨W.heap.size + 1, 1, none⟩) := F 2 (by decide) 67 rfl
                          have f3 : x68 = .string sy := F 3 (by decide) 68 rfl
                          have f4 : Lv (ins kb sy l) x69 w := F 4 (by decide) 69 rfl
                          have f5 : x70 = .string ka := F 5 (by decide) 70 rfl
                          have f6 : x71 = .pointer (some ⟨W.heap.size + 1, 0, none⟩) := F 6 (by decide) 71 rfl
                          have f7 : x72 = .string sx := F 7 (by decide) 72 rfl
                          have f8 : Lv (ins ka sx (ins kb sy l)) x73 w := F 8 (by decide) 73 rfl
                          have f9 : Nz (g9 + 1) x10 w := F 9 (by decide) 10 rfl
                          subst f0
                          subst f1
                          subst f2
                          subst f3
                          subst f5
                          subst f6
                          subst f7
                          clear F hF
                          have hJ1 := hJ
                          obtain ⟨⟨⟨c0, c1, c2, c3, _⟩, _, _, v0, v1, _⟩, ⟨d0, d1, d2, d3, _⟩, _⟩ := hJ1
                          obtain ⟨mt, ht, rfl, qt, lt⟩ := f8
                          have HQT := Lib.hid qt
                          clear qt
                          obtain ⟨g10, rfl, hg10, hat⟩ := f9
                          obtain ⟨z0, z1, z2, z3, y0, y1, y2, y3⟩ := hat.f4
                          have s7 := hJ.1.w4 (a := .bool mt.leaf) (b := .slice ht.K mt.keys.length ht.kc) (c := .slice ht.V mt.vals.length ht.vc) (d := .slice ht.D mt.kids.length ht.dc) hat cs_z (by omega)
                          have bx8 := hJ.2.1.w4 (g := g10) (a := .bool mt.leaf) (b := .slice ht.K mt.keys.length ht.kc) (c := .slice ht.V mt.vals.length ht.vc) (d := .slice ht.D mt.kids.length ht.dc) (by omega)
                          have l8 := lay_w4 (a := .bool mt.leaf) (b := .slice ht.K mt.keys.length ht.kc) (c := .slice ht.V mt.vals.length ht.vc) (d := .slice ht.D mt.kids.length ht.dc) hJ.2.2 hat cs_z
                          have bx9 := bx_at (set4 hat (.bool mt.leaf) (.slice ht.K mt.keys.length ht.kc) (.slice ht.V mt.vals.length ht.vc) (.slice ht.D mt.kids.length ht.dc))
                          have l9 := lay_w4 (a := .bool mt.leaf) (b := .slice ht.K mt.keys.length ht.kc) (c := .slice ht.V mt.vals.length ht.vc) (d := .slice ht.D mt.kids.length ht.dc) lt hat cs_z
                          go_simp
                          refine hK _ _ ?_
                          clear hK z0 z1 z2 z3 y0 y1 y2 y3 hJ hat lt c0 c1 c2 c3 v0 v1 d0 d1 d2 d3
                          obtain ⟨v6, hv6⟩ : ∃ v, v = NodeBox.w4 w g10 (.bool mt.leaf) (.slice ht.K mt.keys.length ht.kc) (.slice ht.V mt.vals.length ht.vc) (.slice ht.D mt.kids.length ht.dc) := ⟨_, rfl⟩
                          rw [← hv6] at s7 bx8 l8 bx9 l9
                          unfold NodeBox.w4 at hv6
                          have HV6 := Lib.hid hv6
                          clear hv6
                          go_wp2_with fail
                          rw [← HV6.out]
                          clear HV6
                          have hJ0 : (fun w' : World => BegV W n h sx sy w' ∧ Bx w' g9 m8 h8 ∧ Lay w' m8 h8 ∧ Bx w' g10 mt ht ∧ Lay w' mt ht) (World.drew v6) := ⟨s7.below (Below.refl _ _).drew, bx8.below (Below.refl _ _).drew, l8.below (Below.refl _ _).drew, bx9.below (Below.refl _ _).drew, l9.below (Below.refl _ _).drew⟩
                          clear s7 bx8 l8 bx9 l9
                          have HLX := Lib.hid (show Lf 102 (ins kb sy (ins ka sx l)) from (HLF0.out.ins HSZ.out.1 HSZ.out.2.2.1).ins HSZ.out.2.1 HSZ.out.2.2.2)
                          have HLT := Lib.hid (show Lf 102 (ins ka sx (ins kb sy l)) from (HLF0.out.ins HSZ.out.2.1 HSZ.out.2.2.2).ins HSZ.out.1 HSZ.out.2.2.1)
                          have HS8 := Lib.hid (show Small m8 by rw [HQ8.out]; exact HLX.out.small (by omega))
                          have HST := Lib.hid (show Small mt by rw [HQT.out]; exact HLT.out.small (by omega))
                          have HEQ := Lib.hid (show m8 = mt by rw [HQ8.out, HQT.out, ins_comm sx sy HNE.out])
                          refine wp_region_any (by kernel_rfl) ?_
                          change wpAny _ _ _ _ _ _ _ (World.drew _)
                          refine Inv.inv_any (fun (i : Nat) (v : Value) (w : World) => match i with | 0 => v = nv m8 h8 | 1 => v = nv mt ht | 2 => v = .bool true | 3 => v = .bool true | 4 => v = nv m8 h8 | 5 => v = .string ka | 6 => Lv (del ka (ins kb sy (ins ka sx l))) v w | 7 => v = .string kb | 8 => Lv (del kb (del ka (ins kb sy (ins ka sx l)))) v w | 9 => v = nv mt ht | 10 => v = .string kb | 11 => Lv (del kb (ins ka sx (ins kb sy l))) v w | 12 => v = .string ka | 13 => Lv (del ka (del kb (ins ka sx (ins kb sy l)))) v w | 14 => v = .bool true | 15 => v = .bool true | _ => True) (fun w' : World => BegV W n h sx sy w' ∧ Bx w' g9 m8 h8 ∧ Lay w' m8 h8 ∧ Bx w' g10 mt ht ∧ Lay w' mt ht) _ 16 90 rfl rfl rfl (by kernel_rfl) (by kernel_rfl) hJ0 ?_ ?_ ?_ ?_
                          · intro j v w w' h hb
                            match j, h with
                            | 0, h => exact h
                            | 1, h => exact h
                            | 2, h => exact h
                            | 3, h => exact h
                            | 4, h => exact h
                            | 5, h => exact h
                            | 6, h => exact Lv.below h hb
                            | 7, h => exact h
                            | 8, h => exact Lv.below h hb
                            | 9, h => exact h
                            | 10, h => exact h
                            | 11, h => exact Lv.below h hb
                            | 12, h => exact h
                            | 13, h => exact Lv.below h hb
                            | 14, h => exact h
                            | 15, h => exact h
                            | 16, _ => exact trivial
                            | (_ + 17), _ => exact trivial
                          · skip
                            refine Inv.from_cons _ _ _ _ rfl (fun _ a w hJ hF F K hK => ?_) ?_
                            · have hz : a.tmps.size = 90 := hF.size
                              have e9 : a.tmps[9]? = some (.pointer (some ⟨g9, 0, none⟩)) := Inv2.some_slot (by rw [hz]; exact Nat.le_of_ble_eq_true rfl) (hF.slot 9 (by kernel_rfl))
                              clear F hF hz
                              have hJ1 := hJ
                              obtain ⟨_, ⟨d0, d1, d2, d3, _⟩, _, ⟨p0, p1, p2, p3, _⟩, _⟩ := hJ1
                              go_simp
                              exact hK (nv m8 h8) _ hJ (Below.refl _ _) rfl
                            refine Inv.from_cons _ _ _ _ rfl (fun _ a w hJ hF F K hK => ?_) ?_
                            · have hz : a.tmps.size = 90 := hF.size
                              have e10 : a.tmps[10]? = some (.pointer (some ⟨g10, 0, none⟩)) := Inv2.some_slot (by rw [hz]; exact Nat.le_of_ble_eq_true rfl) (hF.slot 10 (by kernel_rfl))
                              clear F hF hz
                              have hJ1 := hJ
                              obtain ⟨_, ⟨d0, d1, d2, d3, _⟩, _, ⟨p0, p1, p2, p3, _⟩, _⟩ := hJ1
                              go_simp
                              exact hK (nv mt ht) _ hJ (Below.refl _ _) rfl
                            refine Inv.from_cons _ _ _ _ rfl (fun _ a w hJ hF F K hK => ?_) ?_
                            · have hz : a.tmps.size = 90 := hF.size
                              have e74 : a.tmps[74]? = some (nv m8 h8) := Inv2.some_slot (by rw [hz]; exact Nat.le_of_ble_eq_true rfl) (F 0 (by kernel_rfl) 74 rfl)
                              have e75 : a.tmps[75]? = some (nv mt ht) := Inv2.some_slot (by rw [hz]; exact Nat.le_of_ble_eq_true rfl) (F 1 (by kernel_rfl) 75 rfl)
                              clear F hF hz
                              have hJ1 := hJ
                              obtain ⟨_, ⟨d0, d1, d2, d3, _⟩, _, ⟨p0, p1, p2, p3, _⟩, _⟩ := hJ1
                              have hh := rsame_any w m8 mt h8 ht hJ.2.2.1 hJ.2.2.2.2 HS8.out.k HST.out.k HS8.out.v HST.out.v HS8.out.d true ⟨fun _ => HEQ.out, fun _ => rfl⟩
                              go_simp
                              (with_reducible refine hh.mono ?_)
                              rintro e w' ⟨rfl, hb⟩
                              go_simp
                              exact hK _ _ ⟨hJ.1.below hb, hJ.2.1.below hb, hJ.2.2.1.below hb, hJ.2.2.2.1.below hb, hJ.2.2.2.2.below hb⟩ hb rfl
                            refine Inv.from_cons _ _ _ _ rfl (fun _ a w hJ hF F K hK => ?_) ?_
                            · have hz : a.tmps.size = 90 := hF.size
                              have e76 : a.tmps[76]? = some (.bool true) := Inv2.some_slot (by rw [hz]; exact Nat.le_of_ble_eq_true rfl) (F 2 (by kernel_rfl) 76 rfl)
                              clear F hF hz
                              have hJ1 := hJ
                              obtain ⟨_, ⟨d0, d1, d2, d3, _⟩, _, ⟨p0, p1, p2, p3, _⟩, _⟩ := hJ1
                              go_simp
                              exact hK (.bool true) _ hJ (Below.refl _ _) rfl
                            refine Inv.from_cons _ _ _ _ rfl (fun _ a w hJ hF F K hK => ?_) ?_
                            · have hz : a.tmps.size = 90 := hF.size
                              have e9 : a.tmps[9]? = some (.pointer (some ⟨g9, 0, none⟩)) := Inv2.some_slot (by rw [hz]; exact Nat.le_of_ble_eq_true rfl) (hF.slot 9 (by kernel_rfl))
                              have e77 : a.tmps[77]? = some (.bool true) := Inv2.some_slot (by rw [hz]; exact Nat.le_of_ble_eq_true rfl) (F 3 (by kernel_rfl) 77 rfl)
                              clear F hF hz
                              have hJ1 := hJ
                              obtain ⟨_, ⟨d0, d1, d2, d3, _⟩, _, ⟨p0, p1, p2, p3, _⟩, _⟩ := hJ1
                              go_simp
                              exact hK (nv m8 h8) _ hJ (Below.refl _ _) rfl
                            refine Inv.from_cons _ _ _ _ rfl (fun _ a w hJ hF F K hK => ?_) ?_
                            · have hz : a.tmps.size = 90 := hF.size
                              have e1 : a.tmps[1]? = some (.string ka) := Inv2.some_slot (by rw [hz]; exact Nat.le_of_ble_eq_true rfl) (hF.slot 1 (by kernel_rfl))
                              have e77 : a.tmps[77]? = some (.bool true) := Inv2.some_slot (by rw [hz]; exact Nat.le_of_ble_eq_true rfl) (F 3 (by kernel_rfl) 77 rfl)
                              clear F hF hz
                              have hJ1 := hJ
                              obtain ⟨_, ⟨d0, d1, d2, d3, _⟩, _, ⟨p0, p1, p2, p3, _⟩, _⟩ := hJ1
                              go_simp
                              exact hK (.string ka) _ hJ (Below.refl _ _) rfl
                            refine Inv.from_cons _ _ _ _ rfl (fun _ a w hJ hF F K hK => ?_) ?_
                            · have hz : a.tmps.size = 90 := hF.size
                              have e77 : a.tmps[77]? = some (.bool true) := Inv2.some_slot (by rw [hz]; exact Nat.le_of_ble_eq_true rfl) (F 3 (by kernel_rfl) 77 rfl)
                              have e78 : a.tmps[78]? = some (nv m8 h8) := Inv2.some_slot (by rw [hz]; exact Nat.le_of_ble_eq_true rfl) (F 4 (by kernel_rfl) 78 rfl)
                              have e79 : a.tmps[79]? = some (.string ka) := Inv2.some_slot (by rw [hz]; exact Nat.le_of_ble_eq_true rfl) (F 5 (by kernel_rfl) 79 rfl)
                              clear F hF hz
                              have hJ1 := hJ
                              obtain ⟨_, ⟨d0, d1, d2, d3, _⟩, _, ⟨p0, p1, p2, p3, _⟩, _⟩ := hJ1
                              have hh := drop_lf w _ m8 h8 ka HQ8.out HLX.out (by omega) hJ.2.2.1
                              go_simp
                              (with_reducible refine hh.mono ?_)
                              rintro e w' ⟨v, rfl, hv, hb⟩
                              go_simp
                              exact hK _ _ ⟨hJ.1.below hb, hJ.2.1.below hb, hJ.2.2.1.below hb, hJ.2.2.2.1.below hb, hJ.2.2.2.2.below hb⟩ hb hv
                            refine Inv.from_cons _ _ _ _ rfl (fun _ a w hJ hF F K hK => ?_) ?_
                            · have hz : a.tmps.size = 90 := hF.size
                              have e2 : a.tmps[2]? = some (.string kb) := Inv2.some_slot (by rw [hz]; exact Nat.le_of_ble_eq_true rfl) (hF.slot 2 (by kernel_rfl))
                              have e77 : a.tmps[77]? = some (.bool true) := Inv2.some_slot (by rw [hz]; exact Nat.le_of_ble_eq_true rfl) (F 3 (by kernel_rfl) 77 rfl)
                              clear F hF hz
                              have hJ1 := hJ
                              obtain ⟨_, ⟨d0, d1, d2, d3, _⟩, _, ⟨p0, p1, p2, p3, _⟩, _⟩ := hJ1
                              go_simp
                              exact hK (.string kb) _ hJ (Below.refl _ _) rfl
                            refine Inv.from_cons _ _ _ _ rfl (fun _ a w hJ hF F K hK => ?_) ?_
                            · have hz : a.tmps.size = 90 := hF.size
                              have e77 : a.tmps[77]? = some (.bool true) := Inv2.some_slot (by rw [hz]; exact Nat.le_of_ble_eq_true rfl) (F 3 (by kernel_rfl) 77 rfl)
                              obtain ⟨x80, e80, f6⟩ : ∃ x, a.tmps[80]? = some x ∧ Lv (del ka (ins kb sy (ins ka sx l))) x w := ⟨_, Inv2.some_slot (by rw [hz]; exact Nat.le_of_ble_eq_true rfl) rfl, F 6 (by kernel_rfl) 80 rfl⟩
                              have e81 : a.tmps[81]? = some (.string kb) := Inv2.some_slot (by rw [hz]; exact Nat.le_of_ble_eq_true rfl) (F 7 (by kernel_rfl) 81 rfl)
                              clear F hF hz
                              have hJ1 := hJ
                              obtain ⟨_, ⟨d0, d1, d2, d3, _⟩, _, ⟨p0, p1, p2, p3, _⟩, _⟩ := hJ1
                              obtain ⟨m6, h6, rfl, q6, l6⟩ := f6
                              have Q6 := Lib.hid q6
                              clear q6
                              have hh := drop_lf w _ m6 h6 kb Q6.out (HLX.out.del ka) (by omega) l6
                              go_simp
                              (with_reducible refine hh.mono ?_)
                              rintro e w' ⟨v, rfl, hv, hb⟩
                              go_simp
                              exact hK _ _ ⟨hJ.1.below hb, hJ.2.1.below hb, hJ.2.2.1.below hb, hJ.2.2.2.1.below hb, hJ.2.2.2.2.below hb⟩ hb hv
                            refine Inv.from_cons _ _ _ _ rfl (fun _ a w hJ hF F K hK => ?_) ?_
                            · have hz : a.tmps.size = 90 := hF.size
                              have e10 : a.tmps[10]? = some (.pointer (some ⟨g10, 0, none⟩)) := Inv2.some_slot (by rw [hz]; exact Nat.le_of_ble_eq_true rfl) (hF.slot 10 (by kernel_rfl))
                              have e77 : a.tmps[77]? = some (.bool true) := Inv2.some_slot (by rw [hz]; exact Nat.le_of_ble_eq_true rfl) (F 3 (by kernel_rfl) 77 rfl)
                              clear F hF hz
                              have hJ1 := hJ
                              obtain ⟨_, ⟨d0, d1, d2, d3, _⟩, _, ⟨p0, p1, p2, p3, _⟩, _⟩ := hJ1
                              go_simp
                              exact hK (nv mt ht) _ hJ (Below.refl _ _) rfl
                            refine Inv.from_cons _ _ _ _ rfl (fun _ a w hJ hF F K hK => ?_) ?_
                            · have hz : a.tmps.size = 90 := hF.size
                              have e2 : a.tmps[2]? = some (.string kb) := Inv2.some_slot (by rw [hz]; exact Nat.le_of_ble_eq_true rfl) (hF.slot 2 (by kernel_rfl))
                              have e77 : a.tmps[77]? = some (.bool true) := Inv2.some_slot (by rw [hz]; exact Nat.le_of_ble_eq_true rfl) (F 3 (by kernel_rfl) 77 rfl)
                              clear F hF hz
                              have hJ1 := hJ
                              obtain ⟨_, ⟨d0, d1, d2, d3, _⟩, _, ⟨p0, p1, p2, p3, _⟩, _⟩ := hJ1
                              go_simp
                              exact hK (.string kb) _ hJ (Below.refl _ _) rfl
                            refine Inv.from_cons _ _ _ _ rfl (fun _ a w hJ hF F K hK => ?_) ?_
                            · have hz : a.tmps.size = 90 := hF.size
                              have e77 : a.tmps[77]? = some (.bool true) := Inv2.some_slot (by rw [hz]; exact Nat.le_of_ble_eq_true rfl) (F 3 (by kernel_rfl) 77 rfl)
                              obtain ⟨x82, e82, f8⟩ : ∃ x, a.tmps[82]? = some x ∧ Lv (del kb (del ka (ins kb sy (ins ka sx l)))) x w := ⟨_, Inv2.some_slot (by rw [hz]; exact Nat.le_of_ble_eq_true rfl) rfl, F 8 (by kernel_rfl) 82 rfl⟩
                              have e83 : a.tmps[83]? = some (nv mt ht) := Inv2.some_slot (by rw [hz]; exact Nat.le_of_ble_eq_true rfl) (F 9 (by kernel_rfl) 83 rfl)
                              have e84 : a.tmps[84]? = some (.string kb) := Inv2.some_slot (by rw [hz]; exact Nat.le_of_ble_eq_true rfl) (F 10 (by kernel_rfl) 84 rfl)
                              clear F hF hz
                              have hJ1 := hJ
                              obtain ⟨_, ⟨d0, d1, d2, d3, _⟩, _, ⟨p0, p1, p2, p3, _⟩, _⟩ := hJ1
                              have hh := drop_lf w _ mt ht kb HQT.out HLT.out (by omega) hJ.2.2.2.2
                              go_simp
                              (with_reducible refine hh.mono ?_)
                              rintro e w' ⟨v, rfl, hv, hb⟩
                              go_simp
                              exact hK _ _ ⟨hJ.1.below hb, hJ.2.1.below hb, hJ.2.2.1.below hb, hJ.2.2.2.1.below hb, hJ.2.2.2.2.below hb⟩ hb hv
                            refine Inv.from_cons _ _ _ _ rfl (fun _ a w hJ hF F K hK => ?_) ?_
                            · have hz : a.tmps.size = 90 := hF.size
                              have e1 : a.tmps[1]? = some (.string ka) := Inv2.some_slot (by rw [hz]; exact Nat.le_of_ble_eq_true rfl) (hF.slot 1 (by kernel_rfl))
                              have e77 : a.tmps[77]? = some (.bool true) := Inv2.some_slot (by rw [hz]; exact Nat.le_of_ble_eq_true rfl) (F 3 (by kernel_rfl) 77 rfl)
                              clear F hF hz
                              have hJ1 := hJ
                              obtain ⟨_, ⟨d0, d1, d2, d3, _⟩, _, ⟨p0, p1, p2, p3, _⟩, _⟩ := hJ1
                              go_simp
                              exact hK (.string ka) _ hJ (Below.refl _ _) rfl
                            refine Inv.from_cons _ _ _ _ rfl (fun _ a w hJ hF F K hK => ?_) ?_
                            · have hz : a.tmps.size = 90 := hF.size
                              have e77 : a.tmps[77]? = some (.bool true) := Inv2.some_slot (by rw [hz]; exact Nat.le_of_ble_eq_true rfl) (F 3 (by kernel_rfl) 77 rfl)
                              obtain ⟨x85, e85, f11⟩ : ∃ x, a.tmps[85]? = some x ∧ Lv (del kb (ins ka sx (ins kb sy l))) x w := ⟨_, Inv2.some_slot (by rw [hz]; exact Nat.le_of_ble_eq_true rfl) rfl, F 11 (by kernel_rfl) 85 rfl⟩
                              have e86 : a.tmps[86]? = some (.string ka) := Inv2.some_slot (by rw [hz]; exact Nat.le_of_ble_eq_true rfl) (F 12 (by kernel_rfl) 86 rfl)
                              clear F hF hz
                              have hJ1 := hJ
                              obtain ⟨_, ⟨d0, d1, d2, d3, _⟩, _, ⟨p0, p1, p2, p3, _⟩, _⟩ := hJ1
                              obtain ⟨m6, h6, rfl, q6, l6⟩ := f11
                              have Q6 := Lib.hid q6
                              clear q6
                              have hh := drop_lf w _ m6 h6 ka Q6.out (HLT.out.del kb) (by omega) l6
                              go_simp
                              (with_reducible refine hh.mono ?_)
                              rintro e w' ⟨v, rfl, hv, hb⟩
                              go_simp
                              exact hK _ _ ⟨hJ.1.below hb, hJ.2.1.below hb, hJ.2.2.1.below hb, hJ.2.2.2.1.below hb, hJ.2.2.2.2.below hb⟩ hb hv
                            refine Inv.from_cons _ _ _ _ rfl (fun _ a w hJ hF F K hK => ?_) ?_
                            · have hz : a.tmps.size = 90 := hF.size
                              have e77 : a.tmps[77]? = some (.bool true) := Inv2.some_slot (by rw [hz]; exact Nat.le_of_ble_eq_true rfl) (F 3 (by kernel_rfl) 77 rfl)
                              obtain ⟨x82, e82, f8⟩ : ∃ x, a.tmps[82]? = some x ∧ Lv (del kb (del ka (ins kb sy (ins ka sx l)))) x w := ⟨_, Inv2.some_slot (by rw [hz]; exact Nat.le_of_ble_eq_true rfl) rfl, F 8 (by kernel_rfl) 82 rfl⟩
                              obtain ⟨x87, e87, f13⟩ : ∃ x, a.tmps[87]? = some x ∧ Lv (del ka (del kb (ins ka sx (ins kb sy l)))) x w := ⟨_, Inv2.some_slot (by rw [hz]; exact Nat.le_of_ble_eq_true rfl) rfl, F 13 (by kernel_rfl) 87 rfl⟩
                              clear F hF hz
                              have hJ1 := hJ
                              obtain ⟨_, ⟨d0, d1, d2, d3, _⟩, _, ⟨p0, p1, p2, p3, _⟩, _⟩ := hJ1
                              obtain ⟨m6, h6, rfl, q6, l6⟩ := f8
                              obtain ⟨m7, h7, rfl, q7, l7⟩ := f13
                              have h6s : Small m6 := by rw [q6]; exact ((HLX.out.del ka).del kb).small (by omega)
                              have h7s : Small m7 := by rw [q7]; exact ((HLT.out.del kb).del ka).small (by omega)
                              have hh := rsame_any w m6 m7 h6 h7 l6 l7 h6s.k h7s.k h6s.v h7s.v h6s.d true ⟨fun _ => by rw [q6, q7, ins_comm sx sy HNE.out, del_comm], fun _ => rfl⟩
                              clear h6s h7s q6 q7
                              go_simp
                              (with_reducible refine hh.mono ?_)
                              rintro e w' ⟨rfl, hb⟩
                              go_simp
                              exact hK _ _ ⟨hJ.1.below hb, hJ.2.1.below hb, hJ.2.2.1.below hb, hJ.2.2.2.1.below hb, hJ.2.2.2.2.below hb⟩ hb rfl
                            refine Inv.from_cons _ _ _ _ rfl (fun _ a w hJ hF F K hK => ?_) ?_
                            · have hz : a.tmps.size = 90 := hF.size
                              have e77 : a.tmps[77]? = some (.bool true) := Inv2.some_slot (by rw [hz]; exact Nat.le_of_ble_eq_true rfl) (F 3 (by kernel_rfl) 77 rfl)
                              have e88 : a.tmps[88]? = some (.bool true) := Inv2.some_slot (by rw [hz]; exact Nat.le_of_ble_eq_true rfl) (F 14 (by kernel_rfl) 88 rfl)
                              clear F hF hz
                              have hJ1 := hJ
                              obtain ⟨_, ⟨d0, d1, d2, d3, _⟩, _, ⟨p0, p1, p2, p3, _⟩, _⟩ := hJ1
                              go_simp
                              exact hK (.bool true) _ hJ (Below.refl _ _) rfl
                            refine Inv.from_skip _ _ _ _ rfl ?_
                            exact Inv.from_end _ _ _ _ (by decide +kernel)
                          · intro o ho a w hJ hF F K hK
                            injection (show some _ = some o from ho) with ho
                            subst ho
                            obtain ⟨⟨l⟩, ds⟩ := a
                            have hsz : l.length = 90 := hF.size
                            obtain ⟨x0, x1, x2, x3, x4, x5, x6, x7, x8, x9, x10, x11, x12, x13, x14, x15, x16, x17, x18, x19, x20, x21, x22, x23, x24, x25, x26, x27, x28, x29, x30, x31, x32, x33, x34, x35, x36, x37, x38, x39, x40, x41, x42, x43, x44, x45, x46, x47, x48, x49, x50, x51, x52, x53, x54, x55, x56, x57, x58, x59, x60, x61, x62, x63, x64, x65, x66, x67, x68, x69, x70, x71, x72, x73, x74, x75, x76, x77, x78, x79, x80, x81, x82, x83, x84, x85, x86, x87, x88, x89, rfl⟩ := Lits.lit90 l hsz
                            · skip
                              obtain rfl : ds = [] := hF.defers
                              obtain rfl : x1 = .string ka := hF.slot 1 (by kernel_rfl)
                              obtain rfl : x2 = .string kb := hF.slot 2 (by kernel_rfl)
                              obtain rfl : x4 = .pointer (some ⟨W.heap.size, 0, none⟩) := hF.slot 4 (by kernel_rfl)
                              obtain rfl : x7 = .pointer (some ⟨W.heap.size + 1, 0, none⟩) := hF.slot 7 (by kernel_rfl)
                              obtain rfl : x9 = .pointer (some ⟨g9, 0, none⟩) := hF.slot 9 (by kernel_rfl)
                              obtain rfl : x10 = .pointer (some ⟨g10, 0, none⟩) := hF.slot 10 (by kernel_rfl)
                              have f0 : x74 = nv m8 h8 := F 0 (by decide) 74 rfl
                              have f1 : x75 = nv mt ht := F 1 (by decide) 75 rfl
                              have f2 : x76 = .bool true := F 2 (by decide) 76 rfl
                              have f3 : x77 = .bool true := F 3 (by decide) 77 rfl
                              have f4 : x78 = nv m8 h8 := F 4 (by decide) 78 rfl
                              have f5 : x79 = .string ka := F 5 (by decide) 79 rfl
                              have f6 : Lv (del ka (ins kb sy (ins ka sx l))) x80 w := F 6 (by decide) 80 rfl
                              have f7 : x81 = .string kb := F 7 (by decide) 81 rfl
                              have f8 : Lv (del kb (del ka (ins kb sy (ins ka sx l)))) x82 w := F 8 (by decide) 82 rfl
                              have f9 : x83 = nv mt ht := F 9 (by decide) 83 rfl
                              have f10 : x84 = .string kb := F 10 (by decide) 84 rfl
                              have f11 : Lv (del kb (ins ka sx (ins kb sy l))) x85 w := F 11 (by decide) 85 rfl
                              have f12 : x86 = .string ka := F 12 (by decide) 86 rfl
                              have f13 : Lv (del ka (del kb (ins ka sx (ins kb sy l)))) x87 w := F 13 (by decide) 87 rfl
                              have f14 : x88 = .bool true := F 14 (by decide) 88 rfl
                              have f15 : x89 = .bool true := F 15 (by decide) 89 rfl
                              subst f0
                              subst f1
                              subst f2
                              subst f3
                              subst f4
                              subst f5
                              subst f7
                              subst f9
                              subst f10
                              subst f12
                              subst f14
                              subst f15
                              clear F hF
                              have hJ1 := hJ
                              obtain ⟨_, ⟨d0, d1, d2, d3, _⟩, _, ⟨p0, p1, p2, p3, _⟩, _⟩ := hJ1
                              go_simp
                              refine hK _ _ ?_
                              clear hK
                              go_wp2_with fail
                              go_ret
                              exact ⟨rfl, hJ.1.2.2.1⟩
                          · intro hq; exact absurd hq (by decide +kernel)
                      · intro hq; exact absurd hq (by decide +kernel)
                  · intro hq; exact absurd hq (by decide +kernel)
    · have he2 : (er != 0) = true := by simpa using he0
      clear he0 HER hfew hsm
      go_wp2_with fail
      refine (awake_any w3).mono ?_
      rintro e w9 ⟨rfl, b9⟩
      have s9 := s3.below b9
      go_wp2_with fail
      go_ret
      exact ⟨rfl, s9.2.2.1⟩
end Go.Proofs.Ytpcpfcllgadghaa.NodeEither
