/- The walk of NodeFinds. -/
import Derived.Test.YtpcpfcllgadghaaNodeRooms
import Derived.Test.YtpcpfcllgadghaaNodeRefCheck
import Derived.Test.YtpcpfcllgadghaaNodeRefFind
import Derived.Test.YtpcpfcllgadghaaNodeRefPut
import Derived.Test.YtpcpfcllgadghaaNodeRefDrop
import Derived.Test.YtpcpfcllgadghaaNodeRefBr
import Derived.Test.YtpcpfcllgadghaaInv2
import Derived.Test.YtpcpfcllgadghaaFrames
namespace Go.Proofs.Ytpcpfcllgadghaa.NodeFinds
open Go.RowKit Base NodePlain NodeRead NodeSlice NodeCheck NodeBox NodeEnt NodeCells NodeRd NodeOf2 NodeOf3 NodeFind NodeAwake NodePlumb NodeRooms NodeRefCheck NodeLeaf NodeStore NodeSame NodeRefFind NodeRefPut NodeRefDrop NodeRefBr

set_option maxRecDepth 100000 in
set_option maxHeartbeats 25600000 in
theorem NodeFinds_walk (n : Nd) (h : Hd) (key value : ByteArray) (W : World) (hL : Lay W n h) (hk : n.keys.length ≤ maxLen) (hv : n.vals.length ≤ maxLen) (_hks : key.size ≤ maxLen) (_hvs : value.size ≤ maxLen) :
    Calls Try.prog 5 #[nv n h, .string key, .string value] W (Law W) := by
  obtain ⟨fb, hfb⟩ := pick_b (Few n)
  obtain ⟨er, her⟩ := chk_any n
  have HER := Lib.hid her
  have HCW := Lib.hid (fun w' (s : Begun W n h w') (hsm : Small n) => rcheck_any w' n h s.2.1 hsm er her)
  have HS := Lib.hid (begunL hL)
  have HFW := Lib.hid (fun w' (s : Begun W n h w') => NodeRoom.few_any w' n h s.2.1 hk hv fb hfb)
  clear hk hv hL her
  go_enter Try.func5, Try.ntmps5
  go_wp2_with fail
  refine (awake_any _).mono ?_
  rintro e w1 ⟨rfl, b1⟩
  have s1 := HS.out w1 b1
  clear HS b1
  obtain ⟨c0, c1, c2, c3, _⟩ := s1.1
  go_wp2_with fail
  refine (HFW.out w1 s1).mono ?_
  rintro e w2 ⟨rfl, b2⟩
  have s2 := s1.below b2
  clear s1 b2 HFW c0 c1 c2 c3
  cases fb with
  | false =>
    clear hfb
    go_wp2_with fail
    refine (awake_any w2).mono ?_
    rintro e w9 ⟨rfl, b9⟩
    have s9 := s2.below b9
    go_wp2_with fail
    go_ret
    exact ⟨rfl, s9.2.2⟩
  | true =>
    have hfew := hfb.1 rfl
    have hsm : Small n := hfew.small
    clear hfb
    obtain ⟨c0, c1, c2, c3, _⟩ := s2.1
    go_wp2_with fail
    refine (HCW.out w2 s2 hsm).mono ?_
    rintro e w3 ⟨rfl, b3⟩
    have s3 := s2.below b3
    clear s2 b3 HCW c0 c1 c2 c3
    by_cases he0 : er = 0
    · subst he0
      have hok := (chk_ok HER.out).1 rfl
      clear HER
      by_cases hzkey : 300 < key.size
      · have hykey : (300 : Int) < (key.size : Int) := by omega
        clear hzkey
        obtain ⟨c0, c1, c2, c3, _⟩ := s3.1
        clear hok hfew hsm
        go_wp2_with fail
        refine (awake_any w3).mono ?_
        rintro e w9 ⟨rfl, b9⟩
        have s9 := s3.below b9
        go_wp2_with fail
        go_ret
        exact ⟨rfl, s9.2.2⟩
      · have hykey : ¬ ((300 : Int) < (key.size : Int)) := by omega
        by_cases hzvalue : 300 < value.size
        · have hyvalue : (300 : Int) < (value.size : Int) := by omega
          clear hzvalue
          obtain ⟨c0, c1, c2, c3, _⟩ := s3.1
          clear hok hfew hsm
          go_wp2_with fail
          refine (awake_any w3).mono ?_
          rintro e w9 ⟨rfl, b9⟩
          have s9 := s3.below b9
          go_wp2_with fail
          go_ret
          exact ⟨rfl, s9.2.2⟩
        · have hyvalue : ¬ ((300 : Int) < (value.size : Int)) := by omega
          cases hleaf : n.leaf with
          | true =>
            have hfi := find_any w3 n h key s3.2.1 hok.2.2.2 hsm.k
            have hrf := fun w' (s : Begun W n h w') => rfind_any w' n h key s.2.1 hsm hok.2.2.2 _hks
            have HSM := Lib.hid hsm
            have HU := Lib.hid (show Up n.keys from hok.2.2.2)
            have HKS := Lib.hid _hks
            have HLF := Lib.hid hleaf
            obtain ⟨l, hnl, hlf⟩ := leaf_pairs hok hleaf hfew
            have HNL := Lib.hid hnl
            have HLF0 := Lib.hid hlf
            have HLF1 := Lib.hid (hlf.ins (k := key) (v := value) (by omega) (by omega))
            clear hnl hlf
            obtain ⟨c0, c1, c2, c3, _⟩ := s3.1
            rw [hleaf] at c0
            unfold nv at hfi hrf
            rw [hleaf] at hfi hrf
            clear hok hsm hfew
            generalize at_ n key = am at *
            generalize has n.keys key = hb9 at *
            have HRF := Lib.hid hrf
            clear hrf
            go_wp2_with fail
            refine hfi.mono ?_
            rintro e w4 ⟨rfl, b4⟩
            have s4 := s3.below b4
            clear hfi s3 b4 c0 c1 c2 c3
            obtain ⟨c0, c1, c2, c3, _⟩ := s4.1
            rw [hleaf] at c0
            go_wp2_with fail
            refine (HRF.out w4 s4).mono ?_
            rintro e w5 ⟨rfl, b5⟩
            have s5 := s4.below b5
            clear HRF s4 b5 c0 c1 c2 c3
            go_wp2_with fail
            clear hleaf hykey hyvalue hzkey hzvalue
            have hJ0 : (fun w' : World => Begun W n h w') (World.drew w5) := s5.below (Below.refl _ _).drew
            clear s5
            refine wp_region_any (by kernel_rfl) ?_
            change wpAny _ _ _ _ _ _ _ (World.drew _)
            refine Inv.inv_any (fun (i : Nat) (v : Value) (w : World) => match i with | 0 => v = .int .i64 (am : Int) | 1 => v = .int .i64 (am : Int) | 2 => v = .bool true | 3 => v = .bool true | 4 => v = .bool hb9 | 5 => v = .bool hb9 | 6 => v = .bool true | 7 => v = .bool true | 8 => v = .bool true | 9 => v = nv n h | 10 => v = .string key | 11 => v = .string value | 12 => Lv (ins key value l) v w | 13 => v = nv n h | 14 => v = .string key | 15 => v = .string value | 16 => Lv (ins key value l) v w | 17 => v = .bool true | 18 => v = .bool true | 19 => v = .bool true | 20 => v = nv n h | 21 => v = .string key | 22 => Lv (del key l) v w | 23 => v = nv n h | 24 => v = .string key | 25 => Lv (del key l) v w | 26 => v = .bool true | 27 => v = .bool true | _ => True) (fun w' : World => Begun W n h w') _ 28 74 rfl rfl rfl (by kernel_rfl) (by kernel_rfl) hJ0 ?_ ?_ ?_ ?_
            · intro j v w w' h hb
              match j, h with
              | 0, h => exact h
              | 1, h => exact h
              | 2, h => exact h
              | 3, h => exact h
              | 4, h => exact h
              | 5, h => exact h
              | 6, h => exact h
              | 7, h => exact h
              | 8, h => exact h
              | 9, h => exact h
              | 10, h => exact h
              | 11, h => exact h
              | 12, h => exact Lv.below h hb
              | 13, h => exact h
              | 14, h => exact h
              | 15, h => exact h
              | 16, h => exact Lv.below h hb
              | 17, h => exact h
              | 18, h => exact h
              | 19, h => exact h
              | 20, h => exact h
              | 21, h => exact h
              | 22, h => exact Lv.below h hb
              | 23, h => exact h
              | 24, h => exact h
              | 25, h => exact Lv.below h hb
              | 26, h => exact h
              | 27, h => exact h
              | 28, _ => exact trivial
              | (_ + 29), _ => exact trivial
            · skip
              refine Inv.from_cons _ _ _ _ rfl (fun _ a w hJ hF F K hK => ?_) ?_
              · have hz : a.tmps.size = 74 := hF.size
                have e7 : a.tmps[7]? = some (.int .i64 (am : Int)) := Inv2.some_slot (by rw [hz]; exact Nat.le_of_ble_eq_true rfl) (hF.slot 7 (by kernel_rfl))
                clear F hF hz
                have hJ1 := hJ
                obtain ⟨⟨c0, c1, c2, c3, _⟩, _, _⟩ := hJ1
                go_simp
                exact hK (.int .i64 (am : Int)) _ hJ (Below.refl _ _) rfl
              refine Inv.from_cons _ _ _ _ rfl (fun _ a w hJ hF F K hK => ?_) ?_
              · have hz : a.tmps.size = 74 := hF.size
                have e9 : a.tmps[9]? = some (.int .i64 (am : Int)) := Inv2.some_slot (by rw [hz]; exact Nat.le_of_ble_eq_true rfl) (hF.slot 9 (by kernel_rfl))
                clear F hF hz
                have hJ1 := hJ
                obtain ⟨⟨c0, c1, c2, c3, _⟩, _, _⟩ := hJ1
                go_simp
                exact hK (.int .i64 (am : Int)) _ hJ (Below.refl _ _) rfl
              refine Inv.from_cons _ _ _ _ rfl (fun _ a w hJ hF F K hK => ?_) ?_
              · have hz : a.tmps.size = 74 := hF.size
                have e46 : a.tmps[46]? = some (.int .i64 (am : Int)) := Inv2.some_slot (by rw [hz]; exact Nat.le_of_ble_eq_true rfl) (F 0 (by kernel_rfl) 46 rfl)
                have e47 : a.tmps[47]? = some (.int .i64 (am : Int)) := Inv2.some_slot (by rw [hz]; exact Nat.le_of_ble_eq_true rfl) (F 1 (by kernel_rfl) 47 rfl)
                clear F hF hz
                have hJ1 := hJ
                obtain ⟨⟨c0, c1, c2, c3, _⟩, _, _⟩ := hJ1
                go_simp
                exact hK (.bool true) _ hJ (Below.refl _ _) rfl
              refine Inv.from_cons _ _ _ _ rfl (fun _ a w hJ hF F K hK => ?_) ?_
              · have hz : a.tmps.size = 74 := hF.size
                have e48 : a.tmps[48]? = some (.bool true) := Inv2.some_slot (by rw [hz]; exact Nat.le_of_ble_eq_true rfl) (F 2 (by kernel_rfl) 48 rfl)
                clear F hF hz
                have hJ1 := hJ
                obtain ⟨⟨c0, c1, c2, c3, _⟩, _, _⟩ := hJ1
                go_simp
                exact hK (.bool true) _ hJ (Below.refl _ _) rfl
              refine Inv.from_cons _ _ _ _ rfl (fun _ a w hJ hF F K hK => ?_) ?_
              · have hz : a.tmps.size = 74 := hF.size
                have e8 : a.tmps[8]? = some (.bool hb9) := Inv2.some_slot (by rw [hz]; exact Nat.le_of_ble_eq_true rfl) (hF.slot 8 (by kernel_rfl))
                have e49 : a.tmps[49]? = some (.bool true) := Inv2.some_slot (by rw [hz]; exact Nat.le_of_ble_eq_true rfl) (F 3 (by kernel_rfl) 49 rfl)
                clear F hF hz
                have hJ1 := hJ
                obtain ⟨⟨c0, c1, c2, c3, _⟩, _, _⟩ := hJ1
                go_simp
                exact hK (.bool hb9) _ hJ (Below.refl _ _) rfl
              refine Inv.from_cons _ _ _ _ rfl (fun _ a w hJ hF F K hK => ?_) ?_
              · have hz : a.tmps.size = 74 := hF.size
                have e10 : a.tmps[10]? = some (.bool hb9) := Inv2.some_slot (by rw [hz]; exact Nat.le_of_ble_eq_true rfl) (hF.slot 10 (by kernel_rfl))
                have e49 : a.tmps[49]? = some (.bool true) := Inv2.some_slot (by rw [hz]; exact Nat.le_of_ble_eq_true rfl) (F 3 (by kernel_rfl) 49 rfl)
                clear F hF hz
                have hJ1 := hJ
                obtain ⟨⟨c0, c1, c2, c3, _⟩, _, _⟩ := hJ1
                go_simp
                exact hK (.bool hb9) _ hJ (Below.refl _ _) rfl
              refine Inv.from_cons _ _ _ _ rfl (fun _ a w hJ hF F K hK => ?_) ?_
              · have hz : a.tmps.size = 74 := hF.size
                have e49 : a.tmps[49]? = some (.bool true) := Inv2.some_slot (by rw [hz]; exact Nat.le_of_ble_eq_true rfl) (F 3 (by kernel_rfl) 49 rfl)
                have e50 : a.tmps[50]? = some (.bool hb9) := Inv2.some_slot (by rw [hz]; exact Nat.le_of_ble_eq_true rfl) (F 4 (by kernel_rfl) 50 rfl)
                have e51 : a.tmps[51]? = some (.bool hb9) := Inv2.some_slot (by rw [hz]; exact Nat.le_of_ble_eq_true rfl) (F 5 (by kernel_rfl) 51 rfl)
                clear F hF hz
                have hJ1 := hJ
                obtain ⟨⟨c0, c1, c2, c3, _⟩, _, _⟩ := hJ1
                cases hb9 <;> (go_simp; exact hK (.bool true) _ hJ (Below.refl _ _) rfl)
              refine Inv.from_cons _ _ _ _ rfl (fun _ a w hJ hF F K hK => ?_) ?_
              · have hz : a.tmps.size = 74 := hF.size
                have e49 : a.tmps[49]? = some (.bool true) := Inv2.some_slot (by rw [hz]; exact Nat.le_of_ble_eq_true rfl) (F 3 (by kernel_rfl) 49 rfl)
                have e52 : a.tmps[52]? = some (.bool true) := Inv2.some_slot (by rw [hz]; exact Nat.le_of_ble_eq_true rfl) (F 6 (by kernel_rfl) 52 rfl)
                clear F hF hz
                have hJ1 := hJ
                obtain ⟨⟨c0, c1, c2, c3, _⟩, _, _⟩ := hJ1
                go_simp
                exact hK (.bool true) _ hJ (Below.refl _ _) rfl
              refine Inv.from_cons _ _ _ _ rfl (fun _ a w hJ hF F K hK => ?_) ?_
              · have hz : a.tmps.size = 74 := hF.size
                have e49 : a.tmps[49]? = some (.bool true) := Inv2.some_slot (by rw [hz]; exact Nat.le_of_ble_eq_true rfl) (F 3 (by kernel_rfl) 49 rfl)
                have e53 : a.tmps[53]? = some (.bool true) := Inv2.some_slot (by rw [hz]; exact Nat.le_of_ble_eq_true rfl) (F 7 (by kernel_rfl) 53 rfl)
                clear F hF hz
                have hJ1 := hJ
                obtain ⟨⟨c0, c1, c2, c3, _⟩, _, _⟩ := hJ1
                go_simp
                exact hK (.bool true) _ hJ (Below.refl _ _) rfl
              refine Inv.from_cons _ _ _ _ rfl (fun _ a w hJ hF F K hK => ?_) ?_
              · have hz : a.tmps.size = 74 := hF.size
                have e3 : a.tmps[3]? = some (.pointer (some ⟨W.heap.size, 0, none⟩)) := Inv2.some_slot (by rw [hz]; exact Nat.le_of_ble_eq_true rfl) (hF.slot 3 (by kernel_rfl))
                have e54 : a.tmps[54]? = some (.bool true) := Inv2.some_slot (by rw [hz]; exact Nat.le_of_ble_eq_true rfl) (F 8 (by kernel_rfl) 54 rfl)
                clear F hF hz
                have hJ1 := hJ
                obtain ⟨⟨c0, c1, c2, c3, _⟩, _, _⟩ := hJ1
                go_simp
                exact hK (nv n h) _ hJ (Below.refl _ _) rfl
              refine Inv.from_cons _ _ _ _ rfl (fun _ a w hJ hF F K hK => ?_) ?_
              · have hz : a.tmps.size = 74 := hF.size
                have e1 : a.tmps[1]? = some (.string key) := Inv2.some_slot (by rw [hz]; exact Nat.le_of_ble_eq_true rfl) (hF.slot 1 (by kernel_rfl))
                have e54 : a.tmps[54]? = some (.bool true) := Inv2.some_slot (by rw [hz]; exact Nat.le_of_ble_eq_true rfl) (F 8 (by kernel_rfl) 54 rfl)
                clear F hF hz
                have hJ1 := hJ
                obtain ⟨⟨c0, c1, c2, c3, _⟩, _, _⟩ := hJ1
                go_simp
                exact hK (.string key) _ hJ (Below.refl _ _) rfl
              refine Inv.from_cons _ _ _ _ rfl (fun _ a w hJ hF F K hK => ?_) ?_
              · have hz : a.tmps.size = 74 := hF.size
                have e2 : a.tmps[2]? = some (.string value) := Inv2.some_slot (by rw [hz]; exact Nat.le_of_ble_eq_true rfl) (hF.slot 2 (by kernel_rfl))
                have e54 : a.tmps[54]? = some (.bool true) := Inv2.some_slot (by rw [hz]; exact Nat.le_of_ble_eq_true rfl) (F 8 (by kernel_rfl) 54 rfl)
                clear F hF hz
                have hJ1 := hJ
                obtain ⟨⟨c0, c1, c2, c3, _⟩, _, _⟩ := hJ1
                go_simp
                exact hK (.string value) _ hJ (Below.refl _ _) rfl
              refine Inv.from_cons _ _ _ _ rfl (fun _ a w hJ hF F K hK => ?_) ?_
              · have hz : a.tmps.size = 74 := hF.size
                have e54 : a.tmps[54]? = some (.bool true) := Inv2.some_slot (by rw [hz]; exact Nat.le_of_ble_eq_true rfl) (F 8 (by kernel_rfl) 54 rfl)
                have e55 : a.tmps[55]? = some (nv n h) := Inv2.some_slot (by rw [hz]; exact Nat.le_of_ble_eq_true rfl) (F 9 (by kernel_rfl) 55 rfl)
                have e56 : a.tmps[56]? = some (.string key) := Inv2.some_slot (by rw [hz]; exact Nat.le_of_ble_eq_true rfl) (F 10 (by kernel_rfl) 56 rfl)
                have e57 : a.tmps[57]? = some (.string value) := Inv2.some_slot (by rw [hz]; exact Nat.le_of_ble_eq_true rfl) (F 11 (by kernel_rfl) 57 rfl)
                clear F hF hz
                have hJ1 := hJ
                obtain ⟨⟨c0, c1, c2, c3, _⟩, _, _⟩ := hJ1
                have hh := put_lf w l n h key value HNL.out HLF0.out (by omega) hJ.2.1
                go_simp
                (with_reducible refine hh.mono ?_)
                rintro e w' ⟨v, rfl, hv, hb⟩
                go_simp
                exact hK _ _ (hJ.below hb) hb hv
              refine Inv.from_cons _ _ _ _ rfl (fun _ a w hJ hF F K hK => ?_) ?_
              · have hz : a.tmps.size = 74 := hF.size
                have e3 : a.tmps[3]? = some (.pointer (some ⟨W.heap.size, 0, none⟩)) := Inv2.some_slot (by rw [hz]; exact Nat.le_of_ble_eq_true rfl) (hF.slot 3 (by kernel_rfl))
                have e54 : a.tmps[54]? = some (.bool true) := Inv2.some_slot (by rw [hz]; exact Nat.le_of_ble_eq_true rfl) (F 8 (by kernel_rfl) 54 rfl)
                clear F hF hz
                have hJ1 := hJ
                obtain ⟨⟨c0, c1, c2, c3, _⟩, _, _⟩ := hJ1
                go_simp
                exact hK (nv n h) _ hJ (Below.refl _ _) rfl
              refine Inv.from_cons _ _ _ _ rfl (fun _ a w hJ hF F K hK => ?_) ?_
              · have hz : a.tmps.size = 74 := hF.size
                have e1 : a.tmps[1]? = some (.string key) := Inv2.some_slot (by rw [hz]; exact Nat.le_of_ble_eq_true rfl) (hF.slot 1 (by kernel_rfl))
                have e54 : a.tmps[54]? = some (.bool true) := Inv2.some_slot (by rw [hz]; exact Nat.le_of_ble_eq_true rfl) (F 8 (by kernel_rfl) 54 rfl)
                clear F hF hz
                have hJ1 := hJ
                obtain ⟨⟨c0, c1, c2, c3, _⟩, _, _⟩ := hJ1
                go_simp
                exact hK (.string key) _ hJ (Below.refl _ _) rfl
              refine Inv.from_cons _ _ _ _ rfl (fun _ a w hJ hF F K hK => ?_) ?_
              · have hz : a.tmps.size = 74 := hF.size
                have e2 : a.tmps[2]? = some (.string value) := Inv2.some_slot (by rw [hz]; exact Nat.le_of_ble_eq_true rfl) (hF.slot 2 (by kernel_rfl))
                have e54 : a.tmps[54]? = some (.bool true) := Inv2.some_slot (by rw [hz]; exact Nat.le_of_ble_eq_true rfl) (F 8 (by kernel_rfl) 54 rfl)
                clear F hF hz
                have hJ1 := hJ
                obtain ⟨⟨c0, c1, c2, c3, _⟩, _, _⟩ := hJ1
                go_simp
                exact hK (.string value) _ hJ (Below.refl _ _) rfl
              refine Inv.from_cons _ _ _ _ rfl (fun _ a w hJ hF F K hK => ?_) ?_
              · have hz : a.tmps.size = 74 := hF.size
                have e54 : a.tmps[54]? = some (.bool true) := Inv2.some_slot (by rw [hz]; exact Nat.le_of_ble_eq_true rfl) (F 8 (by kernel_rfl) 54 rfl)
                obtain ⟨x58, e58, f12⟩ : ∃ x, a.tmps[58]? = some x ∧ Lv (ins key value l) x w := ⟨_, Inv2.some_slot (by rw [hz]; exact Nat.le_of_ble_eq_true rfl) rfl, F 12 (by kernel_rfl) 58 rfl⟩
                have e59 : a.tmps[59]? = some (nv n h) := Inv2.some_slot (by rw [hz]; exact Nat.le_of_ble_eq_true rfl) (F 13 (by kernel_rfl) 59 rfl)
                have e60 : a.tmps[60]? = some (.string key) := Inv2.some_slot (by rw [hz]; exact Nat.le_of_ble_eq_true rfl) (F 14 (by kernel_rfl) 60 rfl)
                have e61 : a.tmps[61]? = some (.string value) := Inv2.some_slot (by rw [hz]; exact Nat.le_of_ble_eq_true rfl) (F 15 (by kernel_rfl) 61 rfl)
                clear F hF hz
                have hJ1 := hJ
                obtain ⟨⟨c0, c1, c2, c3, _⟩, _, _⟩ := hJ1
                have hh := rput_lf w l n h key value HNL.out HLF0.out (by omega) hJ.2.1 HKS.out
                go_simp
                (with_reducible refine hh.mono ?_)
                rintro e w' ⟨v, rfl, hv, hb⟩
                go_simp
                exact hK _ _ (hJ.below hb) hb hv
              refine Inv.from_cons _ _ _ _ rfl (fun _ a w hJ hF F K hK => ?_) ?_
              · have hz : a.tmps.size = 74 := hF.size
                have e54 : a.tmps[54]? = some (.bool true) := Inv2.some_slot (by rw [hz]; exact Nat.le_of_ble_eq_true rfl) (F 8 (by kernel_rfl) 54 rfl)
                obtain ⟨x58, e58, f12⟩ : ∃ x, a.tmps[58]? = some x ∧ Lv (ins key value l) x w := ⟨_, Inv2.some_slot (by rw [hz]; exact Nat.le_of_ble_eq_true rfl) rfl, F 12 (by kernel_rfl) 58 rfl⟩
                obtain ⟨x62, e62, f16⟩ : ∃ x, a.tmps[62]? = some x ∧ Lv (ins key value l) x w := ⟨_, Inv2.some_slot (by rw [hz]; exact Nat.le_of_ble_eq_true rfl) rfl, F 16 (by kernel_rfl) 62 rfl⟩
                clear F hF hz
                have hJ1 := hJ
                obtain ⟨⟨c0, c1, c2, c3, _⟩, _, _⟩ := hJ1
                obtain ⟨m6, h6, rfl, q6, l6⟩ := f12
                obtain ⟨m7, h7, rfl, q7, l7⟩ := f16
                have s6 : Small m6 := by rw [q6]; exact HLF1.out.small (by omega)
                have s7 : Small m7 := by rw [q7]; exact HLF1.out.small (by omega)
                have hh := rsame_any w m6 m7 h6 h7 l6 l7 s6.k s7.k s6.v s7.v s6.d true ⟨fun _ => q6.trans q7.symm, fun _ => rfl⟩
                clear s6 s7 q6 q7
                go_simp
                (with_reducible refine hh.mono ?_)
                rintro e w' ⟨rfl, hb⟩
                go_simp
                exact hK _ _ (hJ.below hb) hb rfl
              refine Inv.from_cons _ _ _ _ rfl (fun _ a w hJ hF F K hK => ?_) ?_
              · have hz : a.tmps.size = 74 := hF.size
                have e54 : a.tmps[54]? = some (.bool true) := Inv2.some_slot (by rw [hz]; exact Nat.le_of_ble_eq_true rfl) (F 8 (by kernel_rfl) 54 rfl)
                have e63 : a.tmps[63]? = some (.bool true) := Inv2.some_slot (by rw [hz]; exact Nat.le_of_ble_eq_true rfl) (F 17 (by kernel_rfl) 63 rfl)
                clear F hF hz
                have hJ1 := hJ
                obtain ⟨⟨c0, c1, c2, c3, _⟩, _, _⟩ := hJ1
                go_simp
                exact hK (.bool true) _ hJ (Below.refl _ _) rfl
              refine Inv.from_cons _ _ _ _ rfl (fun _ a w hJ hF F K hK => ?_) ?_
              · have hz : a.tmps.size = 74 := hF.size
                have e63 : a.tmps[63]? = some (.bool true) := Inv2.some_slot (by rw [hz]; exact Nat.le_of_ble_eq_true rfl) (F 17 (by kernel_rfl) 63 rfl)
                have e64 : a.tmps[64]? = some (.bool true) := Inv2.some_slot (by rw [hz]; exact Nat.le_of_ble_eq_true rfl) (F 18 (by kernel_rfl) 64 rfl)
                clear F hF hz
                have hJ1 := hJ
                obtain ⟨⟨c0, c1, c2, c3, _⟩, _, _⟩ := hJ1
                go_simp
                exact hK (.bool true) _ hJ (Below.refl _ _) rfl
              refine Inv.from_cons _ _ _ _ rfl (fun _ a w hJ hF F K hK => ?_) ?_
              · have hz : a.tmps.size = 74 := hF.size
                have e3 : a.tmps[3]? = some (.pointer (some ⟨W.heap.size, 0, none⟩)) := Inv2.some_slot (by rw [hz]; exact Nat.le_of_ble_eq_true rfl) (hF.slot 3 (by kernel_rfl))
                have e65 : a.tmps[65]? = some (.bool true) := Inv2.some_slot (by rw [hz]; exact Nat.le_of_ble_eq_true rfl) (F 19 (by kernel_rfl) 65 rfl)
                clear F hF hz
                have hJ1 := hJ
                obtain ⟨⟨c0, c1, c2, c3, _⟩, _, _⟩ := hJ1
                go_simp
                exact hK (nv n h) _ hJ (Below.refl _ _) rfl
              refine Inv.from_cons _ _ _ _ rfl (fun _ a w hJ hF F K hK => ?_) ?_
              · have hz : a.tmps.size = 74 := hF.size
                have e1 : a.tmps[1]? = some (.string key) := Inv2.some_slot (by rw [hz]; exact Nat.le_of_ble_eq_true rfl) (hF.slot 1 (by kernel_rfl))
                have e65 : a.tmps[65]? = some (.bool true) := Inv2.some_slot (by rw [hz]; exact Nat.le_of_ble_eq_true rfl) (F 19 (by kernel_rfl) 65 rfl)
                clear F hF hz
                have hJ1 := hJ
                obtain ⟨⟨c0, c1, c2, c3, _⟩, _, _⟩ := hJ1
                go_simp
                exact hK (.string key) _ hJ (Below.refl _ _) rfl
              refine Inv.from_cons _ _ _ _ rfl (fun _ a w hJ hF F K hK => ?_) ?_
              · have hz : a.tmps.size = 74 := hF.size
                have e65 : a.tmps[65]? = some (.bool true) := Inv2.some_slot (by rw [hz]; exact Nat.le_of_ble_eq_true rfl) (F 19 (by kernel_rfl) 65 rfl)
                have e66 : a.tmps[66]? = some (nv n h) := Inv2.some_slot (by rw [hz]; exact Nat.le_of_ble_eq_true rfl) (F 20 (by kernel_rfl) 66 rfl)
                have e67 : a.tmps[67]? = some (.string key) := Inv2.some_slot (by rw [hz]; exact Nat.le_of_ble_eq_true rfl) (F 21 (by kernel_rfl) 67 rfl)
                clear F hF hz
                have hJ1 := hJ
                obtain ⟨⟨c0, c1, c2, c3, _⟩, _, _⟩ := hJ1
                have hh := drop_lf w l n h key HNL.out HLF0.out (by omega) hJ.2.1
                go_simp
                (with_reducible refine hh.mono ?_)
                rintro e w' ⟨v, rfl, hv, hb⟩
                go_simp
                exact hK _ _ (hJ.below hb) hb hv
              refine Inv.from_cons _ _ _ _ rfl (fun _ a w hJ hF F K hK => ?_) ?_
              · have hz : a.tmps.size = 74 := hF.size
                have e3 : a.tmps[3]? = some (.pointer (some ⟨W.heap.size, 0, none⟩)) := Inv2.some_slot (by rw [hz]; exact Nat.le_of_ble_eq_true rfl) (hF.slot 3 (by kernel_rfl))
                have e65 : a.tmps[65]? = some (.bool true) := Inv2.some_slot (by rw [hz]; exact Nat.le_of_ble_eq_true rfl) (F 19 (by kernel_rfl) 65 rfl)
                clear F hF hz
                have hJ1 := hJ
                obtain ⟨⟨c0, c1, c2, c3, _⟩, _, _⟩ := hJ1
                go_simp
                exact hK (nv n h) _ hJ (Below.refl _ _) rfl
              refine Inv.from_cons _ _ _ _ rfl (fun _ a w hJ hF F K hK => ?_) ?_
              · have hz : a.tmps.size = 74 := hF.size
                have e1 : a.tmps[1]? = some (.string key) := Inv2.some_slot (by rw [hz]; exact Nat.le_of_ble_eq_true rfl) (hF.slot 1 (by kernel_rfl))
                have e65 : a.tmps[65]? = some (.bool true) := Inv2.some_slot (by rw [hz]; exact Nat.le_of_ble_eq_true rfl) (F 19 (by kernel_rfl) 65 rfl)
                clear F hF hz
                have hJ1 := hJ
                obtain ⟨⟨c0, c1, c2, c3, _⟩, _, _⟩ := hJ1
                go_simp
                exact hK (.string key) _ hJ (Below.refl _ _) rfl
              refine Inv.from_cons _ _ _ _ rfl (fun _ a w hJ hF F K hK => ?_) ?_
              · have hz : a.tmps.size = 74 := hF.size
                have e65 : a.tmps[65]? = some (.bool true) := Inv2.some_slot (by rw [hz]; exact Nat.le_of_ble_eq_true rfl) (F 19 (by kernel_rfl) 65 rfl)
                obtain ⟨x68, e68, f22⟩ : ∃ x, a.tmps[68]? = some x ∧ Lv (del key l) x w := ⟨_, Inv2.some_slot (by rw [hz]; exact Nat.le_of_ble_eq_true rfl) rfl, F 22 (by kernel_rfl) 68 rfl⟩
                have e69 : a.tmps[69]? = some (nv n h) := Inv2.some_slot (by rw [hz]; exact Nat.le_of_ble_eq_true rfl) (F 23 (by kernel_rfl) 69 rfl)
                have e70 : a.tmps[70]? = some (.string key) := Inv2.some_slot (by rw [hz]; exact Nat.le_of_ble_eq_true rfl) (F 24 (by kernel_rfl) 70 rfl)
                clear F hF hz
                have hJ1 := hJ
                obtain ⟨⟨c0, c1, c2, c3, _⟩, _, _⟩ := hJ1
                have hh := rdrop_lf w l n h key HNL.out HLF0.out (by omega) hJ.2.1
                go_simp
                (with_reducible refine hh.mono ?_)
                rintro e w' ⟨v, rfl, hv, hb⟩
                go_simp
                exact hK _ _ (hJ.below hb) hb hv
              refine Inv.from_cons _ _ _ _ rfl (fun _ a w hJ hF F K hK => ?_) ?_
              · have hz : a.tmps.size = 74 := hF.size
                have e65 : a.tmps[65]? = some (.bool true) := Inv2.some_slot (by rw [hz]; exact Nat.le_of_ble_eq_true rfl) (F 19 (by kernel_rfl) 65 rfl)
                obtain ⟨x68, e68, f22⟩ : ∃ x, a.tmps[68]? = some x ∧ Lv (del key l) x w := ⟨_, Inv2.some_slot (by rw [hz]; exact Nat.le_of_ble_eq_true rfl) rfl, F 22 (by kernel_rfl) 68 rfl⟩
                obtain ⟨x71, e71, f25⟩ : ∃ x, a.tmps[71]? = some x ∧ Lv (del key l) x w := ⟨_, Inv2.some_slot (by rw [hz]; exact Nat.le_of_ble_eq_true rfl) rfl, F 25 (by kernel_rfl) 71 rfl⟩
                clear F hF hz
                have hJ1 := hJ
                obtain ⟨⟨c0, c1, c2, c3, _⟩, _, _⟩ := hJ1
                obtain ⟨m6, h6, rfl, q6, l6⟩ := f22
                obtain ⟨m7, h7, rfl, q7, l7⟩ := f25
                have s6 : Small m6 := by rw [q6]; exact (HLF0.out.del key).small (by omega)
                have s7 : Small m7 := by rw [q7]; exact (HLF0.out.del key).small (by omega)
                have hh := rsame_any w m6 m7 h6 h7 l6 l7 s6.k s7.k s6.v s7.v s6.d true ⟨fun _ => q6.trans q7.symm, fun _ => rfl⟩
                clear s6 s7 q6 q7
                go_simp
                (with_reducible refine hh.mono ?_)
                rintro e w' ⟨rfl, hb⟩
                go_simp
                exact hK _ _ (hJ.below hb) hb rfl
              refine Inv.from_cons _ _ _ _ rfl (fun _ a w hJ hF F K hK => ?_) ?_
              · have hz : a.tmps.size = 74 := hF.size
                have e65 : a.tmps[65]? = some (.bool true) := Inv2.some_slot (by rw [hz]; exact Nat.le_of_ble_eq_true rfl) (F 19 (by kernel_rfl) 65 rfl)
                have e72 : a.tmps[72]? = some (.bool true) := Inv2.some_slot (by rw [hz]; exact Nat.le_of_ble_eq_true rfl) (F 26 (by kernel_rfl) 72 rfl)
                clear F hF hz
                have hJ1 := hJ
                obtain ⟨⟨c0, c1, c2, c3, _⟩, _, _⟩ := hJ1
                go_simp
                exact hK (.bool true) _ hJ (Below.refl _ _) rfl
              refine Inv.from_skip _ _ _ _ rfl ?_
              exact Inv.from_end _ _ _ _ (by decide +kernel)
            · intro o ho a w hJ hF F K hK
              injection (show some _ = some o from ho) with ho
              subst ho
              obtain ⟨f, hf⟩ : ∃ f : Nat → Value, ∀ i, a.tmps.getD i undef = f i := ⟨_, fun _ => rfl⟩
              have g1 : f 1 = (.string key) := (hf 1).symm.trans (hF.slot 1 (by kernel_rfl))
              have g2 : f 2 = (.string value) := (hf 2).symm.trans (hF.slot 2 (by kernel_rfl))
              have g3 : f 3 = (.pointer (some ⟨W.heap.size, 0, none⟩)) := (hf 3).symm.trans (hF.slot 3 (by kernel_rfl))
              have g7 : f 7 = (.int .i64 (am : Int)) := (hf 7).symm.trans (hF.slot 7 (by kernel_rfl))
              have g8 : f 8 = (.bool hb9) := (hf 8).symm.trans (hF.slot 8 (by kernel_rfl))
              have g9 : f 9 = (.int .i64 (am : Int)) := (hf 9).symm.trans (hF.slot 9 (by kernel_rfl))
              have g10 : f 10 = (.bool hb9) := (hf 10).symm.trans (hF.slot 10 (by kernel_rfl))
              have g46 : f 46 = (.int .i64 (am : Int)) := (hf 46).symm.trans (F 0 (by decide) 46 rfl)
              have g47 : f 47 = (.int .i64 (am : Int)) := (hf 47).symm.trans (F 1 (by decide) 47 rfl)
              have g48 : f 48 = (.bool true) := (hf 48).symm.trans (F 2 (by decide) 48 rfl)
              have g49 : f 49 = (.bool true) := (hf 49).symm.trans (F 3 (by decide) 49 rfl)
              have g50 : f 50 = (.bool hb9) := (hf 50).symm.trans (F 4 (by decide) 50 rfl)
              have g51 : f 51 = (.bool hb9) := (hf 51).symm.trans (F 5 (by decide) 51 rfl)
              have g52 : f 52 = (.bool true) := (hf 52).symm.trans (F 6 (by decide) 52 rfl)
              have g53 : f 53 = (.bool true) := (hf 53).symm.trans (F 7 (by decide) 53 rfl)
              have g54 : f 54 = (.bool true) := (hf 54).symm.trans (F 8 (by decide) 54 rfl)
              have g55 : f 55 = (nv n h) := (hf 55).symm.trans (F 9 (by decide) 55 rfl)
              have g56 : f 56 = (.string key) := (hf 56).symm.trans (F 10 (by decide) 56 rfl)
              have g57 : f 57 = (.string value) := (hf 57).symm.trans (F 11 (by decide) 57 rfl)
              obtain ⟨x58, g58⟩ : ∃ x, f 58 = x := ⟨_, rfl⟩
              have f12 : Lv (ins key value l) x58 w := by rw [← g58, ← hf 58]; exact F 12 (by decide) 58 rfl
              have g59 : f 59 = (nv n h) := (hf 59).symm.trans (F 13 (by decide) 59 rfl)
              have g60 : f 60 = (.string key) := (hf 60).symm.trans (F 14 (by decide) 60 rfl)
              have g61 : f 61 = (.string value) := (hf 61).symm.trans (F 15 (by decide) 61 rfl)
              obtain ⟨x62, g62⟩ : ∃ x, f 62 = x := ⟨_, rfl⟩
              have f16 : Lv (ins key value l) x62 w := by rw [← g62, ← hf 62]; exact F 16 (by decide) 62 rfl
              have g63 : f 63 = (.bool true) := (hf 63).symm.trans (F 17 (by decide) 63 rfl)
              have g64 : f 64 = (.bool true) := (hf 64).symm.trans (F 18 (by decide) 64 rfl)
              have g65 : f 65 = (.bool true) := (hf 65).symm.trans (F 19 (by decide) 65 rfl)
              have g66 : f 66 = (nv n h) := (hf 66).symm.trans (F 20 (by decide) 66 rfl)
              have g67 : f 67 = (.string key) := (hf 67).symm.trans (F 21 (by decide) 67 rfl)
              obtain ⟨x68, g68⟩ : ∃ x, f 68 = x := ⟨_, rfl⟩
              have f22 : Lv (del key l) x68 w := by rw [← g68, ← hf 68]; exact F 22 (by decide) 68 rfl
              have g69 : f 69 = (nv n h) := (hf 69).symm.trans (F 23 (by decide) 69 rfl)
              have g70 : f 70 = (.string key) := (hf 70).symm.trans (F 24 (by decide) 70 rfl)
              obtain ⟨x71, g71⟩ : ∃ x, f 71 = x := ⟨_, rfl⟩
              have f25 : Lv (del key l) x71 w := by rw [← g71, ← hf 71]; exact F 25 (by decide) 71 rfl
              have g72 : f 72 = (.bool true) := (hf 72).symm.trans (F 26 (by decide) 72 rfl)
              have g73 : f 73 = (.bool true) := (hf 73).symm.trans (F 27 (by decide) 73 rfl)
              have ha := Frames.frame (show a.tmps.size = 74 from hF.size) hF.defers hf (l := [f 0, f 1, f 2, f 3, f 4, f 5, f 6, f 7, f 8, f 9, f 10, f 11, f 12, f 13, f 14, f 15, f 16, f 17, f 18, f 19, f 20, f 21, f 22, f 23, f 24, f 25, f 26, f 27, f 28, f 29, f 30, f 31, f 32, f 33, f 34, f 35, f 36, f 37, f 38, f 39, f 40, f 41, f 42, f 43, f 44, f 45, f 46, f 47, f 48, f 49, f 50, f 51, f 52, f 53, f 54, f 55, f 56, f 57, f 58, f 59, f 60, f 61, f 62, f 63, f 64, f 65, f 66, f 67, f 68, f 69, f 70, f 71, f 72, f 73]) rfl
              simp only [g1, g2, g3, g7, g8, g9, g10, g46, g47, g48, g49, g50, g51, g52, g53, g54, g55, g56, g57, g58, g59, g60, g61, g62, g63, g64, g65, g66, g67, g68, g69, g70, g71, g72, g73] at ha
              clear F hF hf g1 g2 g3 g7 g8 g9 g10 g46 g47 g48 g49 g50 g51 g52 g53 g54 g55 g56 g57 g58 g59 g60 g61 g62 g63 g64 g65 g66 g67 g68 g69 g70 g71 g72 g73
              subst ha
              have hJ1 := hJ
              obtain ⟨⟨c0, c1, c2, c3, _⟩, _, _⟩ := hJ1
              go_simp
              refine hK _ _ ?_
              clear hK
              go_wp2_with fail
              go_ret
              exact ⟨rfl, hJ.2.2⟩
            · intro hq; exact absurd hq (by decide +kernel)
          | false =>
            have hfi := find_any w3 n h key s3.2.1 hok.2.2.2 hsm.k
            have hrf := fun w' (s : Begun W n h w') => rfind_any w' n h key s.2.1 hsm hok.2.2.2 _hks
            have HSM := Lib.hid hsm
            have HU := Lib.hid (show Up n.keys from hok.2.2.2)
            have HKS := Lib.hid _hks
            have HLF := Lib.hid hleaf
            obtain ⟨c0, c1, c2, c3, _⟩ := s3.1
            rw [hleaf] at c0
            unfold nv at hfi hrf
            rw [hleaf] at hfi hrf
            clear hok hsm hfew
            generalize at_ n key = am at *
            generalize has n.keys key = hb9 at *
            have HRF := Lib.hid hrf
            clear hrf
            go_wp2_with fail
            refine hfi.mono ?_
            rintro e w4 ⟨rfl, b4⟩
            have s4 := s3.below b4
            clear hfi s3 b4 c0 c1 c2 c3
            obtain ⟨c0, c1, c2, c3, _⟩ := s4.1
            rw [hleaf] at c0
            go_wp2_with fail
            refine (HRF.out w4 s4).mono ?_
            rintro e w5 ⟨rfl, b5⟩
            have s5 := s4.below b5
            clear HRF s4 b5 c0 c1 c2 c3
            go_wp2_with fail
            clear hleaf hykey hyvalue hzkey hzvalue
            have hJ0 : (fun w' : World => Begun W n h w') (World.drew w5) := s5.below (Below.refl _ _).drew
            clear s5
            refine wp_region_any (by kernel_rfl) ?_
            change wpAny _ _ _ _ _ _ _ (World.drew _)
            refine Inv.inv_any (fun (i : Nat) (v : Value) (w : World) => match i with | 0 => v = .int .i64 (am : Int) | 1 => v = .int .i64 (am : Int) | 2 => v = .bool true | 3 => v = .bool true | 4 => v = .bool hb9 | 5 => v = .bool hb9 | 6 => v = .bool true | 7 => v = .bool true | 8 => v = .bool true | 9 => v = nv n h | 10 => v = .string key | 11 => v = .string value | 12 => Nv n v w | 13 => v = nv n h | 14 => v = .string key | 15 => v = .string value | 16 => Nv n v w | 17 => v = .bool true | 18 => v = .bool true | 19 => v = .bool true | 20 => v = nv n h | 21 => v = .string key | 22 => Nv n v w | 23 => v = nv n h | 24 => v = .string key | 25 => Nv n v w | 26 => v = .bool true | 27 => v = .bool true | _ => True) (fun w' : World => Begun W n h w') _ 28 74 rfl rfl rfl (by kernel_rfl) (by kernel_rfl) hJ0 ?_ ?_ ?_ ?_
            · intro j v w w' h hb
              match j, h with
              | 0, h => exact h
              | 1, h => exact h
              | 2, h => exact h
              | 3, h => exact h
              | 4, h => exact h
              | 5, h => exact h
              | 6, h => exact h
              | 7, h => exact h
              | 8, h => exact h
              | 9, h => exact h
              | 10, h => exact h
              | 11, h => exact h
              | 12, h => exact Nv.below h hb
              | 13, h => exact h
              | 14, h => exact h
              | 15, h => exact h
              | 16, h => exact Nv.below h hb
              | 17, h => exact h
              | 18, h => exact h
              | 19, h => exact h
              | 20, h => exact h
              | 21, h => exact h
              | 22, h => exact Nv.below h hb
              | 23, h => exact h
              | 24, h => exact h
              | 25, h => exact Nv.below h hb
              | 26, h => exact h
              | 27, h => exact h
              | 28, _ => exact trivial
              | (_ + 29), _ => exact trivial
            · skip
              refine Inv.from_cons _ _ _ _ rfl (fun _ a w hJ hF F K hK => ?_) ?_
              · have hz : a.tmps.size = 74 := hF.size
                have e7 : a.tmps[7]? = some (.int .i64 (am : Int)) := Inv2.some_slot (by rw [hz]; exact Nat.le_of_ble_eq_true rfl) (hF.slot 7 (by kernel_rfl))
                clear F hF hz
                have hJ1 := hJ
                obtain ⟨⟨c0, c1, c2, c3, _⟩, _, _⟩ := hJ1
                go_simp
                exact hK (.int .i64 (am : Int)) _ hJ (Below.refl _ _) rfl
              refine Inv.from_cons _ _ _ _ rfl (fun _ a w hJ hF F K hK => ?_) ?_
              · have hz : a.tmps.size = 74 := hF.size
                have e9 : a.tmps[9]? = some (.int .i64 (am : Int)) := Inv2.some_slot (by rw [hz]; exact Nat.le_of_ble_eq_true rfl) (hF.slot 9 (by kernel_rfl))
                clear F hF hz
                have hJ1 := hJ
                obtain ⟨⟨c0, c1, c2, c3, _⟩, _, _⟩ := hJ1
                go_simp
                exact hK (.int .i64 (am : Int)) _ hJ (Below.refl _ _) rfl
              refine Inv.from_cons _ _ _ _ rfl (fun _ a w hJ hF F K hK => ?_) ?_
              · have hz : a.tmps.size = 74 := hF.size
                have e46 : a.tmps[46]? = some (.int .i64 (am : Int)) := Inv2.some_slot (by rw [hz]; exact Nat.le_of_ble_eq_true rfl) (F 0 (by kernel_rfl) 46 rfl)
                have e47 : a.tmps[47]? = some (.int .i64 (am : Int)) := Inv2.some_slot (by rw [hz]; exact Nat.le_of_ble_eq_true rfl) (F 1 (by kernel_rfl) 47 rfl)
                clear F hF hz
                have hJ1 := hJ
                obtain ⟨⟨c0, c1, c2, c3, _⟩, _, _⟩ := hJ1
                go_simp
                exact hK (.bool true) _ hJ (Below.refl _ _) rfl
              refine Inv.from_cons _ _ _ _ rfl (fun _ a w hJ hF F K hK => ?_) ?_
              · have hz : a.tmps.size = 74 := hF.size
                have e48 : a.tmps[48]? = some (.bool true) := Inv2.some_slot (by rw [hz]; exact Nat.le_of_ble_eq_true rfl) (F 2 (by kernel_rfl) 48 rfl)
                clear F hF hz
                have hJ1 := hJ
                obtain ⟨⟨c0, c1, c2, c3, _⟩, _, _⟩ := hJ1
                go_simp
                exact hK (.bool true) _ hJ (Below.refl _ _) rfl
              refine Inv.from_cons _ _ _ _ rfl (fun _ a w hJ hF F K hK => ?_) ?_
              · have hz : a.tmps.size = 74 := hF.size
                have e8 : a.tmps[8]? = some (.bool hb9) := Inv2.some_slot (by rw [hz]; exact Nat.le_of_ble_eq_true rfl) (hF.slot 8 (by kernel_rfl))
                have e49 : a.tmps[49]? = some (.bool true) := Inv2.some_slot (by rw [hz]; exact Nat.le_of_ble_eq_true rfl) (F 3 (by kernel_rfl) 49 rfl)
                clear F hF hz
                have hJ1 := hJ
                obtain ⟨⟨c0, c1, c2, c3, _⟩, _, _⟩ := hJ1
                go_simp
                exact hK (.bool hb9) _ hJ (Below.refl _ _) rfl
              refine Inv.from_cons _ _ _ _ rfl (fun _ a w hJ hF F K hK => ?_) ?_
              · have hz : a.tmps.size = 74 := hF.size
                have e10 : a.tmps[10]? = some (.bool hb9) := Inv2.some_slot (by rw [hz]; exact Nat.le_of_ble_eq_true rfl) (hF.slot 10 (by kernel_rfl))
                have e49 : a.tmps[49]? = some (.bool true) := Inv2.some_slot (by rw [hz]; exact Nat.le_of_ble_eq_true rfl) (F 3 (by kernel_rfl) 49 rfl)
                clear F hF hz
                have hJ1 := hJ
                obtain ⟨⟨c0, c1, c2, c3, _⟩, _, _⟩ := hJ1
                go_simp
                exact hK (.bool hb9) _ hJ (Below.refl _ _) rfl
              refine Inv.from_cons _ _ _ _ rfl (fun _ a w hJ hF F K hK => ?_) ?_
              · have hz : a.tmps.size = 74 := hF.size
                have e49 : a.tmps[49]? = some (.bool true) := Inv2.some_slot (by rw [hz]; exact Nat.le_of_ble_eq_true rfl) (F 3 (by kernel_rfl) 49 rfl)
                have e50 : a.tmps[50]? = some (.bool hb9) := Inv2.some_slot (by rw [hz]; exact Nat.le_of_ble_eq_true rfl) (F 4 (by kernel_rfl) 50 rfl)
                have e51 : a.tmps[51]? = some (.bool hb9) := Inv2.some_slot (by rw [hz]; exact Nat.le_of_ble_eq_true rfl) (F 5 (by kernel_rfl) 51 rfl)
                clear F hF hz
                have hJ1 := hJ
                obtain ⟨⟨c0, c1, c2, c3, _⟩, _, _⟩ := hJ1
                cases hb9 <;> (go_simp; exact hK (.bool true) _ hJ (Below.refl _ _) rfl)
              refine Inv.from_cons _ _ _ _ rfl (fun _ a w hJ hF F K hK => ?_) ?_
              · have hz : a.tmps.size = 74 := hF.size
                have e49 : a.tmps[49]? = some (.bool true) := Inv2.some_slot (by rw [hz]; exact Nat.le_of_ble_eq_true rfl) (F 3 (by kernel_rfl) 49 rfl)
                have e52 : a.tmps[52]? = some (.bool true) := Inv2.some_slot (by rw [hz]; exact Nat.le_of_ble_eq_true rfl) (F 6 (by kernel_rfl) 52 rfl)
                clear F hF hz
                have hJ1 := hJ
                obtain ⟨⟨c0, c1, c2, c3, _⟩, _, _⟩ := hJ1
                go_simp
                exact hK (.bool true) _ hJ (Below.refl _ _) rfl
              refine Inv.from_cons _ _ _ _ rfl (fun _ a w hJ hF F K hK => ?_) ?_
              · have hz : a.tmps.size = 74 := hF.size
                have e49 : a.tmps[49]? = some (.bool true) := Inv2.some_slot (by rw [hz]; exact Nat.le_of_ble_eq_true rfl) (F 3 (by kernel_rfl) 49 rfl)
                have e53 : a.tmps[53]? = some (.bool true) := Inv2.some_slot (by rw [hz]; exact Nat.le_of_ble_eq_true rfl) (F 7 (by kernel_rfl) 53 rfl)
                clear F hF hz
                have hJ1 := hJ
                obtain ⟨⟨c0, c1, c2, c3, _⟩, _, _⟩ := hJ1
                go_simp
                exact hK (.bool true) _ hJ (Below.refl _ _) rfl
              refine Inv.from_cons _ _ _ _ rfl (fun _ a w hJ hF F K hK => ?_) ?_
              · have hz : a.tmps.size = 74 := hF.size
                have e3 : a.tmps[3]? = some (.pointer (some ⟨W.heap.size, 0, none⟩)) := Inv2.some_slot (by rw [hz]; exact Nat.le_of_ble_eq_true rfl) (hF.slot 3 (by kernel_rfl))
                have e54 : a.tmps[54]? = some (.bool true) := Inv2.some_slot (by rw [hz]; exact Nat.le_of_ble_eq_true rfl) (F 8 (by kernel_rfl) 54 rfl)
                clear F hF hz
                have hJ1 := hJ
                obtain ⟨⟨c0, c1, c2, c3, _⟩, _, _⟩ := hJ1
                go_simp
                exact hK (nv n h) _ hJ (Below.refl _ _) rfl
              refine Inv.from_cons _ _ _ _ rfl (fun _ a w hJ hF F K hK => ?_) ?_
              · have hz : a.tmps.size = 74 := hF.size
                have e1 : a.tmps[1]? = some (.string key) := Inv2.some_slot (by rw [hz]; exact Nat.le_of_ble_eq_true rfl) (hF.slot 1 (by kernel_rfl))
                have e54 : a.tmps[54]? = some (.bool true) := Inv2.some_slot (by rw [hz]; exact Nat.le_of_ble_eq_true rfl) (F 8 (by kernel_rfl) 54 rfl)
                clear F hF hz
                have hJ1 := hJ
                obtain ⟨⟨c0, c1, c2, c3, _⟩, _, _⟩ := hJ1
                go_simp
                exact hK (.string key) _ hJ (Below.refl _ _) rfl
              refine Inv.from_cons _ _ _ _ rfl (fun _ a w hJ hF F K hK => ?_) ?_
              · have hz : a.tmps.size = 74 := hF.size
                have e2 : a.tmps[2]? = some (.string value) := Inv2.some_slot (by rw [hz]; exact Nat.le_of_ble_eq_true rfl) (hF.slot 2 (by kernel_rfl))
                have e54 : a.tmps[54]? = some (.bool true) := Inv2.some_slot (by rw [hz]; exact Nat.le_of_ble_eq_true rfl) (F 8 (by kernel_rfl) 54 rfl)
                clear F hF hz
                have hJ1 := hJ
                obtain ⟨⟨c0, c1, c2, c3, _⟩, _, _⟩ := hJ1
                go_simp
                exact hK (.string value) _ hJ (Below.refl _ _) rfl
              refine Inv.from_cons _ _ _ _ rfl (fun _ a w hJ hF F K hK => ?_) ?_
              · have hz : a.tmps.size = 74 := hF.size
                have e54 : a.tmps[54]? = some (.bool true) := Inv2.some_slot (by rw [hz]; exact Nat.le_of_ble_eq_true rfl) (F 8 (by kernel_rfl) 54 rfl)
                have e55 : a.tmps[55]? = some (nv n h) := Inv2.some_slot (by rw [hz]; exact Nat.le_of_ble_eq_true rfl) (F 9 (by kernel_rfl) 55 rfl)
                have e56 : a.tmps[56]? = some (.string key) := Inv2.some_slot (by rw [hz]; exact Nat.le_of_ble_eq_true rfl) (F 10 (by kernel_rfl) 56 rfl)
                have e57 : a.tmps[57]? = some (.string value) := Inv2.some_slot (by rw [hz]; exact Nat.le_of_ble_eq_true rfl) (F 11 (by kernel_rfl) 57 rfl)
                clear F hF hz
                have hJ1 := hJ
                obtain ⟨⟨c0, c1, c2, c3, _⟩, _, _⟩ := hJ1
                have hh := put_br w n h key value hJ.2.1 HSM.out HLF.out
                go_simp
                (with_reducible refine hh.mono ?_)
                rintro e w' ⟨v, rfl, hv, hb⟩
                go_simp
                exact hK _ _ (hJ.below hb) hb hv
              refine Inv.from_cons _ _ _ _ rfl (fun _ a w hJ hF F K hK => ?_) ?_
              · have hz : a.tmps.size = 74 := hF.size
                have e3 : a.tmps[3]? = some (.pointer (some ⟨W.heap.size, 0, none⟩)) := Inv2.some_slot (by rw [hz]; exact Nat.le_of_ble_eq_true rfl) (hF.slot 3 (by kernel_rfl))
                have e54 : a.tmps[54]? = some (.bool true) := Inv2.some_slot (by rw [hz]; exact Nat.le_of_ble_eq_true rfl) (F 8 (by kernel_rfl) 54 rfl)
                clear F hF hz
                have hJ1 := hJ
                obtain ⟨⟨c0, c1, c2, c3, _⟩, _, _⟩ := hJ1
                go_simp
                exact hK (nv n h) _ hJ (Below.refl _ _) rfl
              refine Inv.from_cons _ _ _ _ rfl (fun _ a w hJ hF F K hK => ?_) ?_
              · have hz : a.tmps.size = 74 := hF.size
                have e1 : a.tmps[1]? = some (.string key) := Inv2.some_slot (by rw [hz]; exact Nat.le_of_ble_eq_true rfl) (hF.slot 1 (by kernel_rfl))
                have e54 : a.tmps[54]? = some (.bool true) := Inv2.some_slot (by rw [hz]; exact Nat.le_of_ble_eq_true rfl) (F 8 (by kernel_rfl) 54 rfl)
                clear F hF hz
                have hJ1 := hJ
                obtain ⟨⟨c0, c1, c2, c3, _⟩, _, _⟩ := hJ1
                go_simp
                exact hK (.string key) _ hJ (Below.refl _ _) rfl
              refine Inv.from_cons _ _ _ _ rfl (fun _ a w hJ hF F K hK => ?_) ?_
              · have hz : a.tmps.size = 74 := hF.size
                have e2 : a.tmps[2]? = some (.string value) := Inv2.some_slot (by rw [hz]; exact Nat.le_of_ble_eq_true rfl) (hF.slot 2 (by kernel_rfl))
                have e54 : a.tmps[54]? = some (.bool true) := Inv2.some_slot (by rw [hz]; exact Nat.le_of_ble_eq_true rfl) (F 8 (by kernel_rfl) 54 rfl)
                clear F hF hz
                have hJ1 := hJ
                obtain ⟨⟨c0, c1, c2, c3, _⟩, _, _⟩ := hJ1
                go_simp
                exact hK (.string value) _ hJ (Below.refl _ _) rfl
              refine Inv.from_cons _ _ _ _ rfl (fun _ a w hJ hF F K hK => ?_) ?_
              · have hz : a.tmps.size = 74 := hF.size
                have e54 : a.tmps[54]? = some (.bool true) := Inv2.some_slot (by rw [hz]; exact Nat.le_of_ble_eq_true rfl) (F 8 (by kernel_rfl) 54 rfl)
                obtain ⟨x58, e58, f12⟩ : ∃ x, a.tmps[58]? = some x ∧ Nv n x w := ⟨_, Inv2.some_slot (by rw [hz]; exact Nat.le_of_ble_eq_true rfl) rfl, F 12 (by kernel_rfl) 58 rfl⟩
                have e59 : a.tmps[59]? = some (nv n h) := Inv2.some_slot (by rw [hz]; exact Nat.le_of_ble_eq_true rfl) (F 13 (by kernel_rfl) 59 rfl)
                have e60 : a.tmps[60]? = some (.string key) := Inv2.some_slot (by rw [hz]; exact Nat.le_of_ble_eq_true rfl) (F 14 (by kernel_rfl) 60 rfl)
                have e61 : a.tmps[61]? = some (.string value) := Inv2.some_slot (by rw [hz]; exact Nat.le_of_ble_eq_true rfl) (F 15 (by kernel_rfl) 61 rfl)
                clear F hF hz
                have hJ1 := hJ
                obtain ⟨⟨c0, c1, c2, c3, _⟩, _, _⟩ := hJ1
                have hh := rput_br w n h key value hJ.2.1 HLF.out
                go_simp
                (with_reducible refine hh.mono ?_)
                rintro e w' ⟨v, rfl, hv, hb⟩
                go_simp
                exact hK _ _ (hJ.below hb) hb hv
              refine Inv.from_cons _ _ _ _ rfl (fun _ a w hJ hF F K hK => ?_) ?_
              · have hz : a.tmps.size = 74 := hF.size
                have e54 : a.tmps[54]? = some (.bool true) := Inv2.some_slot (by rw [hz]; exact Nat.le_of_ble_eq_true rfl) (F 8 (by kernel_rfl) 54 rfl)
                obtain ⟨x58, e58, f12⟩ : ∃ x, a.tmps[58]? = some x ∧ Nv n x w := ⟨_, Inv2.some_slot (by rw [hz]; exact Nat.le_of_ble_eq_true rfl) rfl, F 12 (by kernel_rfl) 58 rfl⟩
                obtain ⟨x62, e62, f16⟩ : ∃ x, a.tmps[62]? = some x ∧ Nv n x w := ⟨_, Inv2.some_slot (by rw [hz]; exact Nat.le_of_ble_eq_true rfl) rfl, F 16 (by kernel_rfl) 62 rfl⟩
                clear F hF hz
                have hJ1 := hJ
                obtain ⟨⟨c0, c1, c2, c3, _⟩, _, _⟩ := hJ1
                obtain ⟨h6, rfl, l6⟩ := f12
                obtain ⟨h7, rfl, l7⟩ := f16
                have hh := rsame_any w n n h6 h7 l6 l7 HSM.out.k HSM.out.k HSM.out.v HSM.out.v HSM.out.d true ⟨fun _ => rfl, fun _ => rfl⟩
                go_simp
                (with_reducible refine hh.mono ?_)
                rintro e w' ⟨rfl, hb⟩
                go_simp
                exact hK _ _ (hJ.below hb) hb rfl
              refine Inv.from_cons _ _ _ _ rfl (fun _ a w hJ hF F K hK => ?_) ?_
              · have hz : a.tmps.size = 74 := hF.size
                have e54 : a.tmps[54]? = some (.bool true) := Inv2.some_slot (by rw [hz]; exact Nat.le_of_ble_eq_true rfl) (F 8 (by kernel_rfl) 54 rfl)
                have e63 : a.tmps[63]? = some (.bool true) := Inv2.some_slot (by rw [hz]; exact Nat.le_of_ble_eq_true rfl) (F 17 (by kernel_rfl) 63 rfl)
                clear F hF hz
                have hJ1 := hJ
                obtain ⟨⟨c0, c1, c2, c3, _⟩, _, _⟩ := hJ1
                go_simp
                exact hK (.bool true) _ hJ (Below.refl _ _) rfl
              refine Inv.from_cons _ _ _ _ rfl (fun _ a w hJ hF F K hK => ?_) ?_
              · have hz : a.tmps.size = 74 := hF.size
                have e63 : a.tmps[63]? = some (.bool true) := Inv2.some_slot (by rw [hz]; exact Nat.le_of_ble_eq_true rfl) (F 17 (by kernel_rfl) 63 rfl)
                have e64 : a.tmps[64]? = some (.bool true) := Inv2.some_slot (by rw [hz]; exact Nat.le_of_ble_eq_true rfl) (F 18 (by kernel_rfl) 64 rfl)
                clear F hF hz
                have hJ1 := hJ
                obtain ⟨⟨c0, c1, c2, c3, _⟩, _, _⟩ := hJ1
                go_simp
                exact hK (.bool true) _ hJ (Below.refl _ _) rfl
              refine Inv.from_cons _ _ _ _ rfl (fun _ a w hJ hF F K hK => ?_) ?_
              · have hz : a.tmps.size = 74 := hF.size
                have e3 : a.tmps[3]? = some (.pointer (some ⟨W.heap.size, 0, none⟩)) := Inv2.some_slot (by rw [hz]; exact Nat.le_of_ble_eq_true rfl) (hF.slot 3 (by kernel_rfl))
                have e65 : a.tmps[65]? = some (.bool true) := Inv2.some_slot (by rw [hz]; exact Nat.le_of_ble_eq_true rfl) (F 19 (by kernel_rfl) 65 rfl)
                clear F hF hz
                have hJ1 := hJ
                obtain ⟨⟨c0, c1, c2, c3, _⟩, _, _⟩ := hJ1
                go_simp
                exact hK (nv n h) _ hJ (Below.refl _ _) rfl
              refine Inv.from_cons _ _ _ _ rfl (fun _ a w hJ hF F K hK => ?_) ?_
              · have hz : a.tmps.size = 74 := hF.size
                have e1 : a.tmps[1]? = some (.string key) := Inv2.some_slot (by rw [hz]; exact Nat.le_of_ble_eq_true rfl) (hF.slot 1 (by kernel_rfl))
                have e65 : a.tmps[65]? = some (.bool true) := Inv2.some_slot (by rw [hz]; exact Nat.le_of_ble_eq_true rfl) (F 19 (by kernel_rfl) 65 rfl)
                clear F hF hz
                have hJ1 := hJ
                obtain ⟨⟨c0, c1, c2, c3, _⟩, _, _⟩ := hJ1
                go_simp
                exact hK (.string key) _ hJ (Below.refl _ _) rfl
              refine Inv.from_cons _ _ _ _ rfl (fun _ a w hJ hF F K hK => ?_) ?_
              · have hz : a.tmps.size = 74 := hF.size
                have e65 : a.tmps[65]? = some (.bool true) := Inv2.some_slot (by rw [hz]; exact Nat.le_of_ble_eq_true rfl) (F 19 (by kernel_rfl) 65 rfl)
                have e66 : a.tmps[66]? = some (nv n h) := Inv2.some_slot (by rw [hz]; exact Nat.le_of_ble_eq_true rfl) (F 20 (by kernel_rfl) 66 rfl)
                have e67 : a.tmps[67]? = some (.string key) := Inv2.some_slot (by rw [hz]; exact Nat.le_of_ble_eq_true rfl) (F 21 (by kernel_rfl) 67 rfl)
                clear F hF hz
                have hJ1 := hJ
                obtain ⟨⟨c0, c1, c2, c3, _⟩, _, _⟩ := hJ1
                have hh := drop_br w n h key hJ.2.1 HSM.out HU.out HLF.out
                go_simp
                (with_reducible refine hh.mono ?_)
                rintro e w' ⟨v, rfl, hv, hb⟩
                go_simp
                exact hK _ _ (hJ.below hb) hb hv
              refine Inv.from_cons _ _ _ _ rfl (fun _ a w hJ hF F K hK => ?_) ?_
              · have hz : a.tmps.size = 74 := hF.size
                have e3 : a.tmps[3]? = some (.pointer (some ⟨W.heap.size, 0, none⟩)) := Inv2.some_slot (by rw [hz]; exact Nat.le_of_ble_eq_true rfl) (hF.slot 3 (by kernel_rfl))
                have e65 : a.tmps[65]? = some (.bool true) := Inv2.some_slot (by rw [hz]; exact Nat.le_of_ble_eq_true rfl) (F 19 (by kernel_rfl) 65 rfl)
                clear F hF hz
                have hJ1 := hJ
                obtain ⟨⟨c0, c1, c2, c3, _⟩, _, _⟩ := hJ1
                go_simp
                exact hK (nv n h) _ hJ (Below.refl _ _) rfl
              refine Inv.from_cons _ _ _ _ rfl (fun _ a w hJ hF F K hK => ?_) ?_
              · have hz : a.tmps.size = 74 := hF.size
                have e1 : a.tmps[1]? = some (.string key) := Inv2.some_slot (by rw [hz]; exact Nat.le_of_ble_eq_true rfl) (hF.slot 1 (by kernel_rfl))
                have e65 : a.tmps[65]? = some (.bool true) := Inv2.some_slot (by rw [hz]; exact Nat.le_of_ble_eq_true rfl) (F 19 (by kernel_rfl) 65 rfl)
                clear F hF hz
                have hJ1 := hJ
                obtain ⟨⟨c0, c1, c2, c3, _⟩, _, _⟩ := hJ1
                go_simp
                exact hK (.string key) _ hJ (Below.refl _ _) rfl
              refine Inv.from_cons _ _ _ _ rfl (fun _ a w hJ hF F K hK => ?_) ?_
              · have hz : a.tmps.size = 74 := hF.size
                have e65 : a.tmps[65]? = some (.bool true) := Inv2.some_slot (by rw [hz]; exact Nat.le_of_ble_eq_true rfl) (F 19 (by kernel_rfl) 65 rfl)
                obtain ⟨x68, e68, f22⟩ : ∃ x, a.tmps[68]? = some x ∧ Nv n x w := ⟨_, Inv2.some_slot (by rw [hz]; exact Nat.le_of_ble_eq_true rfl) rfl, F 22 (by kernel_rfl) 68 rfl⟩
                have e69 : a.tmps[69]? = some (nv n h) := Inv2.some_slot (by rw [hz]; exact Nat.le_of_ble_eq_true rfl) (F 23 (by kernel_rfl) 69 rfl)
                have e70 : a.tmps[70]? = some (.string key) := Inv2.some_slot (by rw [hz]; exact Nat.le_of_ble_eq_true rfl) (F 24 (by kernel_rfl) 70 rfl)
                clear F hF hz
                have hJ1 := hJ
                obtain ⟨⟨c0, c1, c2, c3, _⟩, _, _⟩ := hJ1
                have hh := rdrop_br w n h key hJ.2.1 HLF.out
                go_simp
                (with_reducible refine hh.mono ?_)
                rintro e w' ⟨v, rfl, hv, hb⟩
                go_simp
                exact hK _ _ (hJ.below hb) hb hv
              refine Inv.from_cons _ _ _ _ rfl (fun _ a w hJ hF F K hK => ?_) ?_
              · have hz : a.tmps.size = 74 := hF.size
                have e65 : a.tmps[65]? = some (.bool true) := Inv2.some_slot (by rw [hz]; exact Nat.le_of_ble_eq_true rfl) (F 19 (by kernel_rfl) 65 rfl)
                obtain ⟨x68, e68, f22⟩ : ∃ x, a.tmps[68]? = some x ∧ Nv n x w := ⟨_, Inv2.some_slot (by rw [hz]; exact Nat.le_of_ble_eq_true rfl) rfl, F 22 (by kernel_rfl) 68 rfl⟩
                obtain ⟨x71, e71, f25⟩ : ∃ x, a.tmps[71]? = some x ∧ Nv n x w := ⟨_, Inv2.some_slot (by rw [hz]; exact Nat.le_of_ble_eq_true rfl) rfl, F 25 (by kernel_rfl) 71 rfl⟩
                clear F hF hz
                have hJ1 := hJ
                obtain ⟨⟨c0, c1, c2, c3, _⟩, _, _⟩ := hJ1
                obtain ⟨h6, rfl, l6⟩ := f22
                obtain ⟨h7, rfl, l7⟩ := f25
                have hh := rsame_any w n n h6 h7 l6 l7 HSM.out.k HSM.out.k HSM.out.v HSM.out.v HSM.out.d true ⟨fun _ => rfl, fun _ => rfl⟩
                go_simp
                (with_reducible refine hh.mono ?_)
                rintro e w' ⟨rfl, hb⟩
                go_simp
                exact hK _ _ (hJ.below hb) hb rfl
              refine Inv.from_cons _ _ _ _ rfl (fun _ a w hJ hF F K hK => ?_) ?_
              · have hz : a.tmps.size = 74 := hF.size
                have e65 : a.tmps[65]? = some (.bool true) := Inv2.some_slot (by rw [hz]; exact Nat.le_of_ble_eq_true rfl) (F 19 (by kernel_rfl) 65 rfl)
                have e72 : a.tmps[72]? = some (.bool true) := Inv2.some_slot (by rw [hz]; exact Nat.le_of_ble_eq_true rfl) (F 26 (by kernel_rfl) 72 rfl)
                clear F hF hz
                have hJ1 := hJ
                obtain ⟨⟨c0, c1, c2, c3, _⟩, _, _⟩ := hJ1
                go_simp
                exact hK (.bool true) _ hJ (Below.refl _ _) rfl
              refine Inv.from_skip _ _ _ _ rfl ?_
              exact Inv.from_end _ _ _ _ (by decide +kernel)
            · intro o ho a w hJ hF F K hK
              injection (show some _ = some o from ho) with ho
              subst ho
              obtain ⟨f, hf⟩ : ∃ f : Nat → Value, ∀ i, a.tmps.getD i undef = f i := ⟨_, fun _ => rfl⟩
              have g1 : f 1 = (.string key) := (hf 1).symm.trans (hF.slot 1 (by kernel_rfl))
              have g2 : f 2 = (.string value) := (hf 2).symm.trans (hF.slot 2 (by kernel_rfl))
              have g3 : f 3 = (.pointer (some ⟨W.heap.size, 0, none⟩)) := (hf 3).symm.trans (hF.slot 3 (by kernel_rfl))
              have g7 : f 7 = (.int .i64 (am : Int)) := (hf 7).symm.trans (hF.slot 7 (by kernel_rfl))
              have g8 : f 8 = (.bool hb9) := (hf 8).symm.trans (hF.slot 8 (by kernel_rfl))
              have g9 : f 9 = (.int .i64 (am : Int)) := (hf 9).symm.trans (hF.slot 9 (by kernel_rfl))
              have g10 : f 10 = (.bool hb9) := (hf 10).symm.trans (hF.slot 10 (by kernel_rfl))
              have g46 : f 46 = (.int .i64 (am : Int)) := (hf 46).symm.trans (F 0 (by decide) 46 rfl)
              have g47 : f 47 = (.int .i64 (am : Int)) := (hf 47).symm.trans (F 1 (by decide) 47 rfl)
              have g48 : f 48 = (.bool true) := (hf 48).symm.trans (F 2 (by decide) 48 rfl)
              have g49 : f 49 = (.bool true) := (hf 49).symm.trans (F 3 (by decide) 49 rfl)
              have g50 : f 50 = (.bool hb9) := (hf 50).symm.trans (F 4 (by decide) 50 rfl)
              have g51 : f 51 = (.bool hb9) := (hf 51).symm.trans (F 5 (by decide) 51 rfl)
              have g52 : f 52 = (.bool true) := (hf 52).symm.trans (F 6 (by decide) 52 rfl)
              have g53 : f 53 = (.bool true) := (hf 53).symm.trans (F 7 (by decide) 53 rfl)
              have g54 : f 54 = (.bool true) := (hf 54).symm.trans (F 8 (by decide) 54 rfl)
              have g55 : f 55 = (nv n h) := (hf 55).symm.trans (F 9 (by decide) 55 rfl)
              have g56 : f 56 = (.string key) := (hf 56).symm.trans (F 10 (by decide) 56 rfl)
              have g57 : f 57 = (.string value) := (hf 57).symm.trans (F 11 (by decide) 57 rfl)
              obtain ⟨x58, g58⟩ : ∃ x, f 58 = x := ⟨_, rfl⟩
              have f12 : Nv n x58 w := by rw [← g58, ← hf 58]; exact F 12 (by decide) 58 rfl
              have g59 : f 59 = (nv n h) := (hf 59).symm.trans (F 13 (by decide) 59 rfl)
              have g60 : f 60 = (.string key) := (hf 60).symm.trans (F 14 (by decide) 60 rfl)
              have g61 : f 61 = (.string value) := (hf 61).symm.trans (F 15 (by decide) 61 rfl)
              obtain ⟨x62, g62⟩ : ∃ x, f 62 = x := ⟨_, rfl⟩
              have f16 : Nv n x62 w := by rw [← g62, ← hf 62]; exact F 16 (by decide) 62 rfl
              have g63 : f 63 = (.bool true) := (hf 63).symm.trans (F 17 (by decide) 63 rfl)
              have g64 : f 64 = (.bool true) := (hf 64).symm.trans (F 18 (by decide) 64 rfl)
              have g65 : f 65 = (.bool true) := (hf 65).symm.trans (F 19 (by decide) 65 rfl)
              have g66 : f 66 = (nv n h) := (hf 66).symm.trans (F 20 (by decide) 66 rfl)
              have g67 : f 67 = (.string key) := (hf 67).symm.trans (F 21 (by decide) 67 rfl)
              obtain ⟨x68, g68⟩ : ∃ x, f 68 = x := ⟨_, rfl⟩
              have f22 : Nv n x68 w := by rw [← g68, ← hf 68]; exact F 22 (by decide) 68 rfl
              have g69 : f 69 = (nv n h) := (hf 69).symm.trans (F 23 (by decide) 69 rfl)
              have g70 : f 70 = (.string key) := (hf 70).symm.trans (F 24 (by decide) 70 rfl)
              obtain ⟨x71, g71⟩ : ∃ x, f 71 = x := ⟨_, rfl⟩
              have f25 : Nv n x71 w := by rw [← g71, ← hf 71]; exact F 25 (by decide) 71 rfl
              have g72 : f 72 = (.bool true) := (hf 72).symm.trans (F 26 (by decide) 72 rfl)
              have g73 : f 73 = (.bool true) := (hf 73).symm.trans (F 27 (by decide) 73 rfl)
              have ha := Frames.frame (show a.tmps.size = 74 from hF.size) hF.defers hf (l := [f 0, f 1, f 2, f 3, f 4, f 5, f 6, f 7, f 8, f 9, f 10, f 11, f 12, f 13, f 14, f 15, f 16, f 17, f 18, f 19, f 20, f 21, f 22, f 23, f 24, f 25, f 26, f 27, f 28, f 29, f 30, f 31, f 32, f 33, f 34, f 35, f 36, f 37, f 38, f 39, f 40, f 41, f 42, f 43, f 44, f 45, f 46, f 47, f 48, f 49, f 50, f 51, f 52, f 53, f 54, f 55, f 56, f 57, f 58, f 59, f 60, f 61, f 62, f 63, f 64, f 65, f 66, f 67, f 68, f 69, f 70, f 71, f 72, f 73]) rfl
              simp only [g1, g2, g3, g7, g8, g9, g10, g46, g47, g48, g49, g50, g51, g52, g53, g54, g55, g56, g57, g58, g59, g60, g61, g62, g63, g64, g65, g66, g67, g68, g69, g70, g71, g72, g73] at ha
              clear F hF hf g1 g2 g3 g7 g8 g9 g10 g46 g47 g48 g49 g50 g51 g52 g53 g54 g55 g56 g57 g58 g59 g60 g61 g62 g63 g64 g65 g66 g67 g68 g69 g70 g71 g72 g73
              subst ha
              have hJ1 := hJ
              obtain ⟨⟨c0, c1, c2, c3, _⟩, _, _⟩ := hJ1
              go_simp
              refine hK _ _ ?_
              clear hK
              go_wp2_with fail
              go_ret
              exact ⟨rfl, hJ.2.2⟩
            · intro hq; exact absurd hq (by decide +kernel)
    · have he2 : (er != 0) = true := by simpa using he0
      clear he0 HER hfew hsm
      go_wp2_with fail
      refine (awake_any w3).mono ?_
      rintro e w9 ⟨rfl, b9⟩
      have s9 := s3.below b9
      go_wp2_with fail
      go_ret
      exact ⟨rfl, s9.2.2⟩
end Go.Proofs.Ytpcpfcllgadghaa.NodeFinds
