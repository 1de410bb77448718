/- The walk of NodePuts. -/
import Derived.Test.YtpcpfcllgadghaaNodeRooms
import Derived.Test.YtpcpfcllgadghaaNodeRefCheck
import Derived.Test.YtpcpfcllgadghaaNodeGot
import Derived.Test.YtpcpfcllgadghaaInv2
import Derived.Test.YtpcpfcllgadghaaFrames
namespace Go.Proofs.Ytpcpfcllgadghaa.NodePuts
open Go.RowKit Base NodePlain NodeRead NodeSlice NodeCheck NodeBox NodeEnt NodeCells NodeRd NodeOf2 NodeOf3 NodeFind NodeAwake NodePlumb NodeRooms NodeRefCheck NodeLeaf NodeStore NodeSame NodeGot NodeRefFind

set_option maxRecDepth 100000 in
set_option maxHeartbeats 25600000 in
theorem NodePuts_walk (n : Nd) (h : Hd) (key value other : ByteArray) (W : World) (hL : Lay W n h) (hk : n.keys.length ≤ maxLen) (hv : n.vals.length ≤ maxLen) (_hka : key.size ≤ maxLen) (_hkb : value.size ≤ maxLen) (_hoz : other.size ≤ maxLen) :
    Calls Try.prog 6 #[nv n h, .string key, .string value, .string other] W (Law W) := by
  obtain ⟨fb, hfb⟩ := pick_b (Few n)
  obtain ⟨er, her⟩ := chk_any n
  have HER := Lib.hid her
  have HCW := Lib.hid (fun w' (s : Begun W n h w') (hsm : Small n) => rcheck_any w' n h s.2.1 hsm er her)
  have HS := Lib.hid (begunL hL)
  have HFW := Lib.hid (fun w' (s : Begun W n h w') => NodeRoom.few_any w' n h s.2.1 hk hv fb hfb)
  clear hk hv hL her
  go_enter Try.func6, Try.ntmps6
  go_wp2_with fail
  refine (awake_any _).mono ?_
  rintro e w1 ⟨rfl, b1⟩
  have s1 := HS.out w1 b1
  clear HS b1
  obtain ⟨c0, c1, c2, c3, _⟩ := s1.1
  go_wp2_with fail
  refine (HFW.out w1 s1).mono ?_
  rintro e w2 ⟨rfl, b2⟩
  have s2 := s1.below b2
  clear s1 b2 HFW c0 c1 c2 c3
  cases fb with
  | false =>
    clear hfb
    go_wp2_with fail
    refine (awake_any w2).mono ?_
    rintro e w9 ⟨rfl, b9⟩
    have s9 := s2.below b9
    go_wp2_with fail
    go_ret
    exact ⟨rfl, s9.2.2⟩
  | true =>
    have hfew := hfb.1 rfl
    have hsm : Small n := hfew.small
    clear hfb
    obtain ⟨c0, c1, c2, c3, _⟩ := s2.1
    go_wp2_with fail
    refine (HCW.out w2 s2 hsm).mono ?_
    rintro e w3 ⟨rfl, b3⟩
    have s3 := s2.below b3
    clear s2 b3 HCW c0 c1 c2 c3
    by_cases he0 : er = 0
    · subst he0
      have hok := (chk_ok HER.out).1 rfl
      clear HER
      cases hleaf : n.leaf with
      | false =>
        obtain ⟨c0, c1, c2, c3, _⟩ := s3.1
        rw [hleaf] at c0
        clear hok hfew hsm
        go_wp2_with fail
        refine (awake_any w3).mono ?_
        rintro e w9 ⟨rfl, b9⟩
        have s9 := s3.below b9
        go_wp2_with fail
        go_ret
        exact ⟨rfl, s9.2.2⟩
      | true =>
        by_cases hzkey : 100 < key.size
        · have hykey : (100 : Int) < (key.size : Int) := by omega
          clear hzkey
          obtain ⟨c0, c1, c2, c3, _⟩ := s3.1
          rw [hleaf] at c0
          clear hok hfew hsm
          go_wp2_with fail
          refine (awake_any w3).mono ?_
          rintro e w9 ⟨rfl, b9⟩
          have s9 := s3.below b9
          go_wp2_with fail
          go_ret
          exact ⟨rfl, s9.2.2⟩
        · have hykey : ¬ ((100 : Int) < (key.size : Int)) := by omega
          by_cases hzvalue : 100 < value.size
          · have hyvalue : (100 : Int) < (value.size : Int) := by omega
            clear hzvalue
            obtain ⟨c0, c1, c2, c3, _⟩ := s3.1
            rw [hleaf] at c0
            clear hok hfew hsm
            go_wp2_with fail
            refine (awake_any w3).mono ?_
            rintro e w9 ⟨rfl, b9⟩
            have s9 := s3.below b9
            go_wp2_with fail
            go_ret
            exact ⟨rfl, s9.2.2⟩
          · have hyvalue : ¬ ((100 : Int) < (value.size : Int)) := by omega
            by_cases hzother : 100 < other.size
            · have hyother : (100 : Int) < (other.size : Int) := by omega
              clear hzother
              obtain ⟨c0, c1, c2, c3, _⟩ := s3.1
              rw [hleaf] at c0
              clear hok hfew hsm
              go_wp2_with fail
              refine (awake_any w3).mono ?_
              rintro e w9 ⟨rfl, b9⟩
              have s9 := s3.below b9
              go_wp2_with fail
              go_ret
              exact ⟨rfl, s9.2.2⟩
            · have hyother : ¬ ((100 : Int) < (other.size : Int)) := by omega
              obtain ⟨l, hnl, hlf⟩ := leaf_pairs hok hleaf hfew
              have HNL := Lib.hid hnl
              have HLF0 := Lib.hid hlf
              have HSZ := Lib.hid (show Sz l from ok_sz (by rw [← hnl]; exact hok))
              have HKZ := Lib.hid (show key.size ≤ 100 ∧ value.size ≤ 100 from ⟨by omega, by omega⟩)
              have HOZ := Lib.hid _hoz
              have HLF1 := Lib.hid (hlf.ins (k := key) (v := value) (by omega) (by omega))
              have hp := put_lf w3 l n h key value hnl hlf (by omega) s3.2.1
              unfold nv at hp
              rw [hleaf] at hp
              obtain ⟨c0, c1, c2, c3, _⟩ := s3.1
              rw [hleaf] at c0
              clear hnl hlf hok hsm hfew
              go_wp2_with fail
              clear c0 c1 c2 c3 hleaf hykey hyvalue hyother hzkey hzvalue hzother
              refine hp.mono ?_
              rintro e v4 ⟨v, rfl, hv, b4⟩
              have s4 := s3.below b4
              clear hp s3 b4
              obtain ⟨m, hm, rfl, qm, lm⟩ := hv
              have HQM := Lib.hid qm
              have HSM := Lib.hid (show Small m by rw [qm]; exact HLF1.out.small (by omega))
              have HOM := Lib.hid (show Ok m by rw [qm]; exact ok_lfn (sz_ins HSZ.out HKZ.out.1 HKZ.out.2) HLF1.out.up)
              have hum : Up m.keys := by rw [qm]; exact HLF1.out.up
              have hhm : has m.keys key = true := by rw [qm]; exact has_ins key value l
              obtain ⟨hlt, hval⟩ := val_at qm HLF1.out.up (look_ins key value l)
              clear qm
              have b5 := box_below v4 m hm
              have bx5 := bx_new v4 m hm
              have lm5 := lm.below b5
              have s5 := s4.below b5
              obtain ⟨v5, hv5⟩ : ∃ v, v = box v4 m hm := ⟨_, rfl⟩
              rw [← hv5] at bx5 lm5 s5
              unfold box at hv5
              have HV5 := Lib.hid hv5
              clear hv5 b5 s4 lm
              have hfm := find_any v5 m hm key lm5 hum HSM.out.k
              rw [hhm] at hfm
              clear hum hhm
              generalize at_ m key = am at *
              have HLT := Lib.hid hlt
              have HVAL := Lib.hid (show ∀ hq : am < m.vals.length, m.vals[am] = value from fun _ => hval)
              clear hval
              go_wp2_with fail
              rw [← HV5.out]
              clear HV5
              generalize v4.heap.size = g5 at *
              refine hfm.mono ?_
              rintro e v6 ⟨rfl, b6⟩
              clear hfm
              have s6 := s5.below b6
              have bx6 := bx5.below b6
              have lm6 := lm5.below b6
              clear s5 bx5 lm5 b6
              obtain ⟨ad, hVA, j1, j2⟩ := strs_get lm6.v am hlt
              have HVA := Lib.hid hVA
              clear j1 j2
              clear hVA hlt
              go_wp2_with fail
              by_cases hne : other = key
              · have HEB := Lib.hid (show (other.toList == key.toList) = true by rw [hne]; simp)
                clear hne
                have hJ0 : (fun w' : World => Begun W n h w' ∧ Bx w' g5 m hm ∧ Lay w' m hm) (World.drew v6) := ⟨s6.below (Below.refl _ _).drew, bx6.below (Below.refl _ _).drew, lm6.below (Below.refl _ _).drew⟩
                clear s6 bx6 lm6
                refine wp_region_any (by kernel_rfl) ?_
                change wpAny _ _ _ _ _ _ _ (World.drew _)
                refine Inv.inv_any (fun (i : Nat) (v : Value) (w : World) => match i with | 0 => v = nv m hm | 1 => v = .int .i64 0 | 2 => v = .bool false | 3 => v = .bool false | 4 => v = .bool true | 5 => v = .bool false | 6 => v = .bool false | 7 => v = .bool false | 8 => v = .pointer (some ⟨g5, 2, none⟩) | 9 => v = .slice (some ad) m.vals.length hm.vc | 10 => v = .int .i64 (am : Int) | 11 => v = .pointer (some (ad.add am)) | 12 => v = .string value | 13 => v = .string value | 14 => v = .bool false | 15 => v = .bool false | 16 => v = .bool false | 17 => v = .string other | 18 => v = .string key | 19 => v = .bool false | 20 => v = .bool false | 28 => v = .bool false | 29 => v = .bool false | _ => True) (fun w' : World => Begun W n h w' ∧ Bx w' g5 m hm ∧ Lay w' m hm) _ 30 126 rfl rfl rfl (by kernel_rfl) (by kernel_rfl) hJ0 ?_ ?_ ?_ ?_
                · intro j v w w' h hb
                  match j, h with
                  | 0, h => exact h
                  | 1, h => exact h
                  | 2, h => exact h
                  | 3, h => exact h
                  | 4, h => exact h
                  | 5, h => exact h
                  | 6, h => exact h
                  | 7, h => exact h
                  | 8, h => exact h
                  | 9, h => exact h
                  | 10, h => exact h
                  | 11, h => exact h
                  | 12, h => exact h
                  | 13, h => exact h
                  | 14, h => exact h
                  | 15, h => exact h
                  | 16, h => exact h
                  | 17, h => exact h
                  | 18, h => exact h
                  | 19, h => exact h
                  | 20, h => exact h
                  | 28, h => exact h
                  | 29, h => exact h
                  | 21, _ => exact trivial
                  | 22, _ => exact trivial
                  | 23, _ => exact trivial
                  | 24, _ => exact trivial
                  | 25, _ => exact trivial
                  | 26, _ => exact trivial
                  | 27, _ => exact trivial
                  | (_ + 30), _ => exact trivial
                · skip
                  refine Inv.from_cons _ _ _ _ rfl (fun _ a w hJ hF F K hK => ?_) ?_
                  · have hz : a.tmps.size = 126 := hF.size
                    have e9 : a.tmps[9]? = some (.pointer (some ⟨g5, 0, none⟩)) := Inv2.some_slot (by rw [hz]; exact Nat.le_of_ble_eq_true rfl) (hF.slot 9 (by kernel_rfl))
                    clear F hF hz
                    have hJ1 := hJ
                    obtain ⟨⟨⟨c0, c1, c2, c3, _⟩, _, _⟩, ⟨d0, d1, d2, d3, _⟩, _⟩ := hJ1
                    go_simp
                    exact hK (nv m hm) _ hJ (Below.refl _ _) rfl
                  refine Inv.from_cons _ _ _ _ rfl (fun _ a w hJ hF F K hK => ?_) ?_
                  · have hz : a.tmps.size = 126 := hF.size
                    have e58 : a.tmps[58]? = some (nv m hm) := Inv2.some_slot (by rw [hz]; exact Nat.le_of_ble_eq_true rfl) (F 0 (by kernel_rfl) 58 rfl)
                    clear F hF hz
                    have hJ1 := hJ
                    obtain ⟨⟨⟨c0, c1, c2, c3, _⟩, _, _⟩, ⟨d0, d1, d2, d3, _⟩, _⟩ := hJ1
                    have hh := check_any w m hm hJ.2.2 HSM.out 0 (.inr (.inr ⟨HOM.out.1, HOM.out.2, rfl⟩))
                    go_simp
                    (with_reducible refine hh.mono ?_)
                    rintro e w' ⟨rfl, hb⟩
                    go_simp
                    exact hK _ _ ⟨hJ.1.below hb, hJ.2.1.below hb, hJ.2.2.below hb⟩ hb rfl
                  refine Inv.from_cons _ _ _ _ rfl (fun _ a w hJ hF F K hK => ?_) ?_
                  · have hz : a.tmps.size = 126 := hF.size
                    have e59 : a.tmps[59]? = some (.int .i64 0) := Inv2.some_slot (by rw [hz]; exact Nat.le_of_ble_eq_true rfl) (F 1 (by kernel_rfl) 59 rfl)
                    clear F hF hz
                    have hJ1 := hJ
                    obtain ⟨⟨⟨c0, c1, c2, c3, _⟩, _, _⟩, ⟨d0, d1, d2, d3, _⟩, _⟩ := hJ1
                    go_simp
                    exact hK (.bool false) _ hJ (Below.refl _ _) rfl
                  refine Inv.from_cons _ _ _ _ rfl (fun _ a w hJ hF F K hK => ?_) ?_
                  · have hz : a.tmps.size = 126 := hF.size
                    have e59 : a.tmps[59]? = some (.int .i64 0) := Inv2.some_slot (by rw [hz]; exact Nat.le_of_ble_eq_true rfl) (F 1 (by kernel_rfl) 59 rfl)
                    have e60 : a.tmps[60]? = some (.bool false) := Inv2.some_slot (by rw [hz]; exact Nat.le_of_ble_eq_true rfl) (F 2 (by kernel_rfl) 60 rfl)
                    clear F hF hz
                    have hJ1 := hJ
                    obtain ⟨⟨⟨c0, c1, c2, c3, _⟩, _, _⟩, ⟨d0, d1, d2, d3, _⟩, _⟩ := hJ1
                    go_simp
                    exact hK (.bool false) _ hJ (Below.refl _ _) rfl
                  refine Inv.from_cons _ _ _ _ rfl (fun _ a w hJ hF F K hK => ?_) ?_
                  · have hz : a.tmps.size = 126 := hF.size
                    have e11 : a.tmps[11]? = some (.bool true) := Inv2.some_slot (by rw [hz]; exact Nat.le_of_ble_eq_true rfl) (hF.slot 11 (by kernel_rfl))
                    have e61 : a.tmps[61]? = some (.bool false) := Inv2.some_slot (by rw [hz]; exact Nat.le_of_ble_eq_true rfl) (F 3 (by kernel_rfl) 61 rfl)
                    clear F hF hz
                    have hJ1 := hJ
                    obtain ⟨⟨⟨c0, c1, c2, c3, _⟩, _, _⟩, ⟨d0, d1, d2, d3, _⟩, _⟩ := hJ1
                    go_simp
                    exact hK (.bool true) _ hJ (Below.refl _ _) rfl
                  refine Inv.from_cons _ _ _ _ rfl (fun _ a w hJ hF F K hK => ?_) ?_
                  · have hz : a.tmps.size = 126 := hF.size
                    have e61 : a.tmps[61]? = some (.bool false) := Inv2.some_slot (by rw [hz]; exact Nat.le_of_ble_eq_true rfl) (F 3 (by kernel_rfl) 61 rfl)
                    have e62 : a.tmps[62]? = some (.bool true) := Inv2.some_slot (by rw [hz]; exact Nat.le_of_ble_eq_true rfl) (F 4 (by kernel_rfl) 62 rfl)
                    clear F hF hz
                    have hJ1 := hJ
                    obtain ⟨⟨⟨c0, c1, c2, c3, _⟩, _, _⟩, ⟨d0, d1, d2, d3, _⟩, _⟩ := hJ1
                    go_simp
                    exact hK (.bool false) _ hJ (Below.refl _ _) rfl
                  refine Inv.from_cons _ _ _ _ rfl (fun _ a w hJ hF F K hK => ?_) ?_
                  · have hz : a.tmps.size = 126 := hF.size
                    have e61 : a.tmps[61]? = some (.bool false) := Inv2.some_slot (by rw [hz]; exact Nat.le_of_ble_eq_true rfl) (F 3 (by kernel_rfl) 61 rfl)
                    have e63 : a.tmps[63]? = some (.bool false) := Inv2.some_slot (by rw [hz]; exact Nat.le_of_ble_eq_true rfl) (F 5 (by kernel_rfl) 63 rfl)
                    clear F hF hz
                    have hJ1 := hJ
                    obtain ⟨⟨⟨c0, c1, c2, c3, _⟩, _, _⟩, ⟨d0, d1, d2, d3, _⟩, _⟩ := hJ1
                    go_simp
                    exact hK (.bool false) _ hJ (Below.refl _ _) rfl
                  refine Inv.from_cons _ _ _ _ rfl (fun _ a w hJ hF F K hK => ?_) ?_
                  · have hz : a.tmps.size = 126 := hF.size
                    have e61 : a.tmps[61]? = some (.bool false) := Inv2.some_slot (by rw [hz]; exact Nat.le_of_ble_eq_true rfl) (F 3 (by kernel_rfl) 61 rfl)
                    have e64 : a.tmps[64]? = some (.bool false) := Inv2.some_slot (by rw [hz]; exact Nat.le_of_ble_eq_true rfl) (F 6 (by kernel_rfl) 64 rfl)
                    clear F hF hz
                    have hJ1 := hJ
                    obtain ⟨⟨⟨c0, c1, c2, c3, _⟩, _, _⟩, ⟨d0, d1, d2, d3, _⟩, _⟩ := hJ1
                    go_simp
                    exact hK (.bool false) _ hJ (Below.refl _ _) rfl
                  refine Inv.from_cons _ _ _ _ rfl (fun _ a w hJ hF F K hK => ?_) ?_
                  · have hz : a.tmps.size = 126 := hF.size
                    have e9 : a.tmps[9]? = some (.pointer (some ⟨g5, 0, none⟩)) := Inv2.some_slot (by rw [hz]; exact Nat.le_of_ble_eq_true rfl) (hF.slot 9 (by kernel_rfl))
                    have e65 : a.tmps[65]? = some (.bool false) := Inv2.some_slot (by rw [hz]; exact Nat.le_of_ble_eq_true rfl) (F 7 (by kernel_rfl) 65 rfl)
                    clear F hF hz
                    have hJ1 := hJ
                    obtain ⟨⟨⟨c0, c1, c2, c3, _⟩, _, _⟩, ⟨d0, d1, d2, d3, _⟩, _⟩ := hJ1
                    go_simp
                    exact hK (.pointer (some ⟨g5, 2, none⟩)) _ hJ (Below.refl _ _) rfl
                  refine Inv.from_cons _ _ _ _ rfl (fun _ a w hJ hF F K hK => ?_) ?_
                  · have hz : a.tmps.size = 126 := hF.size
                    have e65 : a.tmps[65]? = some (.bool false) := Inv2.some_slot (by rw [hz]; exact Nat.le_of_ble_eq_true rfl) (F 7 (by kernel_rfl) 65 rfl)
                    have e66 : a.tmps[66]? = some (.pointer (some ⟨g5, 2, none⟩)) := Inv2.some_slot (by rw [hz]; exact Nat.le_of_ble_eq_true rfl) (F 8 (by kernel_rfl) 66 rfl)
                    clear F hF hz
                    have hJ1 := hJ
                    obtain ⟨⟨⟨c0, c1, c2, c3, _⟩, _, _⟩, ⟨d0, d1, d2, d3, _⟩, _⟩ := hJ1
                    rw [HVA.out] at d2
                    go_simp
                    exact hK (.slice (some ad) m.vals.length hm.vc) _ hJ (Below.refl _ _) rfl
                  refine Inv.from_cons _ _ _ _ rfl (fun _ a w hJ hF F K hK => ?_) ?_
                  · have hz : a.tmps.size = 126 := hF.size
                    have e10 : a.tmps[10]? = some (.int .i64 (am : Int)) := Inv2.some_slot (by rw [hz]; exact Nat.le_of_ble_eq_true rfl) (hF.slot 10 (by kernel_rfl))
                    have e65 : a.tmps[65]? = some (.bool false) := Inv2.some_slot (by rw [hz]; exact Nat.le_of_ble_eq_true rfl) (F 7 (by kernel_rfl) 65 rfl)
                    clear F hF hz
                    have hJ1 := hJ
                    obtain ⟨⟨⟨c0, c1, c2, c3, _⟩, _, _⟩, ⟨d0, d1, d2, d3, _⟩, _⟩ := hJ1
                    go_simp
                    exact hK (.int .i64 (am : Int)) _ hJ (Below.refl _ _) rfl
                  refine Inv.from_cons _ _ _ _ rfl (fun _ a w hJ hF F K hK => ?_) ?_
                  · have hz : a.tmps.size = 126 := hF.size
                    have e65 : a.tmps[65]? = some (.bool false) := Inv2.some_slot (by rw [hz]; exact Nat.le_of_ble_eq_true rfl) (F 7 (by kernel_rfl) 65 rfl)
                    have e67 : a.tmps[67]? = some (.slice (some ad) m.vals.length hm.vc) := Inv2.some_slot (by rw [hz]; exact Nat.le_of_ble_eq_true rfl) (F 9 (by kernel_rfl) 67 rfl)
                    have e68 : a.tmps[68]? = some (.int .i64 (am : Int)) := Inv2.some_slot (by rw [hz]; exact Nat.le_of_ble_eq_true rfl) (F 10 (by kernel_rfl) 68 rfl)
                    clear F hF hz
                    have hJ1 := hJ
                    obtain ⟨⟨⟨c0, c1, c2, c3, _⟩, _, _⟩, ⟨d0, d1, d2, d3, _⟩, _⟩ := hJ1
                    have i1 : (am : Int) < (m.vals.length : Int) := by have := HLT.out; omega
                    go_simp
                    exact hK (.pointer (some (ad.add am))) _ hJ (Below.refl _ _) rfl
                  refine Inv.from_cons _ _ _ _ rfl (fun _ a w hJ hF F K hK => ?_) ?_
                  · have hz : a.tmps.size = 126 := hF.size
                    have e65 : a.tmps[65]? = some (.bool false) := Inv2.some_slot (by rw [hz]; exact Nat.le_of_ble_eq_true rfl) (F 7 (by kernel_rfl) 65 rfl)
                    have e69 : a.tmps[69]? = some (.pointer (some (ad.add am))) := Inv2.some_slot (by rw [hz]; exact Nat.le_of_ble_eq_true rfl) (F 11 (by kernel_rfl) 69 rfl)
                    clear F hF hz
                    have hJ1 := hJ
                    obtain ⟨⟨⟨c0, c1, c2, c3, _⟩, _, _⟩, ⟨d0, d1, d2, d3, _⟩, _⟩ := hJ1
                    obtain ⟨ad', hV', _, hcell⟩ := strs_get hJ.2.2.v am HLT.out
                    rw [HVA.out] at hV'
                    injection hV' with hV'
                    subst hV'
                    rw [HVAL.out HLT.out] at hcell
                    go_simp
                    exact hK (.string value) _ hJ (Below.refl _ _) rfl
                  refine Inv.from_cons _ _ _ _ rfl (fun _ a w hJ hF F K hK => ?_) ?_
                  · have hz : a.tmps.size = 126 := hF.size
                    have e2 : a.tmps[2]? = some (.string value) := Inv2.some_slot (by rw [hz]; exact Nat.le_of_ble_eq_true rfl) (hF.slot 2 (by kernel_rfl))
                    have e65 : a.tmps[65]? = some (.bool false) := Inv2.some_slot (by rw [hz]; exact Nat.le_of_ble_eq_true rfl) (F 7 (by kernel_rfl) 65 rfl)
                    clear F hF hz
                    have hJ1 := hJ
                    obtain ⟨⟨⟨c0, c1, c2, c3, _⟩, _, _⟩, ⟨d0, d1, d2, d3, _⟩, _⟩ := hJ1
                    go_simp
                    exact hK (.string value) _ hJ (Below.refl _ _) rfl
                  refine Inv.from_cons _ _ _ _ rfl (fun _ a w hJ hF F K hK => ?_) ?_
                  · have hz : a.tmps.size = 126 := hF.size
                    have e65 : a.tmps[65]? = some (.bool false) := Inv2.some_slot (by rw [hz]; exact Nat.le_of_ble_eq_true rfl) (F 7 (by kernel_rfl) 65 rfl)
                    have e70 : a.tmps[70]? = some (.string value) := Inv2.some_slot (by rw [hz]; exact Nat.le_of_ble_eq_true rfl) (F 12 (by kernel_rfl) 70 rfl)
                    have e71 : a.tmps[71]? = some (.string value) := Inv2.some_slot (by rw [hz]; exact Nat.le_of_ble_eq_true rfl) (F 13 (by kernel_rfl) 71 rfl)
                    clear F hF hz
                    have hJ1 := hJ
                    obtain ⟨⟨⟨c0, c1, c2, c3, _⟩, _, _⟩, ⟨d0, d1, d2, d3, _⟩, _⟩ := hJ1
                    go_simp
                    exact hK (.bool false) _ hJ (Below.refl _ _) rfl
                  refine Inv.from_cons _ _ _ _ rfl (fun _ a w hJ hF F K hK => ?_) ?_
                  · have hz : a.tmps.size = 126 := hF.size
                    have e65 : a.tmps[65]? = some (.bool false) := Inv2.some_slot (by rw [hz]; exact Nat.le_of_ble_eq_true rfl) (F 7 (by kernel_rfl) 65 rfl)
                    have e72 : a.tmps[72]? = some (.bool false) := Inv2.some_slot (by rw [hz]; exact Nat.le_of_ble_eq_true rfl) (F 14 (by kernel_rfl) 72 rfl)
                    clear F hF hz
                    have hJ1 := hJ
                    obtain ⟨⟨⟨c0, c1, c2, c3, _⟩, _, _⟩, ⟨d0, d1, d2, d3, _⟩, _⟩ := hJ1
                    go_simp
                    exact hK (.bool false) _ hJ (Below.refl _ _) rfl
                  refine Inv.from_cons _ _ _ _ rfl (fun _ a w hJ hF F K hK => ?_) ?_
                  · have hz : a.tmps.size = 126 := hF.size
                    have e65 : a.tmps[65]? = some (.bool false) := Inv2.some_slot (by rw [hz]; exact Nat.le_of_ble_eq_true rfl) (F 7 (by kernel_rfl) 65 rfl)
                    have e73 : a.tmps[73]? = some (.bool false) := Inv2.some_slot (by rw [hz]; exact Nat.le_of_ble_eq_true rfl) (F 15 (by kernel_rfl) 73 rfl)
                    clear F hF hz
                    have hJ1 := hJ
                    obtain ⟨⟨⟨c0, c1, c2, c3, _⟩, _, _⟩, ⟨d0, d1, d2, d3, _⟩, _⟩ := hJ1
                    go_simp
                    exact hK (.bool false) _ hJ (Below.refl _ _) rfl
                  refine Inv.from_cons _ _ _ _ rfl (fun _ a w hJ hF F K hK => ?_) ?_
                  · have hz : a.tmps.size = 126 := hF.size
                    have e3 : a.tmps[3]? = some (.string other) := Inv2.some_slot (by rw [hz]; exact Nat.le_of_ble_eq_true rfl) (hF.slot 3 (by kernel_rfl))
                    have e74 : a.tmps[74]? = some (.bool false) := Inv2.some_slot (by rw [hz]; exact Nat.le_of_ble_eq_true rfl) (F 16 (by kernel_rfl) 74 rfl)
                    clear F hF hz
                    have hJ1 := hJ
                    obtain ⟨⟨⟨c0, c1, c2, c3, _⟩, _, _⟩, ⟨d0, d1, d2, d3, _⟩, _⟩ := hJ1
                    go_simp
                    exact hK (.string other) _ hJ (Below.refl _ _) rfl
                  refine Inv.from_cons _ _ _ _ rfl (fun _ a w hJ hF F K hK => ?_) ?_
                  · have hz : a.tmps.size = 126 := hF.size
                    have e1 : a.tmps[1]? = some (.string key) := Inv2.some_slot (by rw [hz]; exact Nat.le_of_ble_eq_true rfl) (hF.slot 1 (by kernel_rfl))
                    have e74 : a.tmps[74]? = some (.bool false) := Inv2.some_slot (by rw [hz]; exact Nat.le_of_ble_eq_true rfl) (F 16 (by kernel_rfl) 74 rfl)
                    clear F hF hz
                    have hJ1 := hJ
                    obtain ⟨⟨⟨c0, c1, c2, c3, _⟩, _, _⟩, ⟨d0, d1, d2, d3, _⟩, _⟩ := hJ1
                    go_simp
                    exact hK (.string key) _ hJ (Below.refl _ _) rfl
                  refine Inv.from_cons _ _ _ _ rfl (fun _ a w hJ hF F K hK => ?_) ?_
                  · have hz : a.tmps.size = 126 := hF.size
                    have e74 : a.tmps[74]? = some (.bool false) := Inv2.some_slot (by rw [hz]; exact Nat.le_of_ble_eq_true rfl) (F 16 (by kernel_rfl) 74 rfl)
                    have e75 : a.tmps[75]? = some (.string other) := Inv2.some_slot (by rw [hz]; exact Nat.le_of_ble_eq_true rfl) (F 17 (by kernel_rfl) 75 rfl)
                    have e76 : a.tmps[76]? = some (.string key) := Inv2.some_slot (by rw [hz]; exact Nat.le_of_ble_eq_true rfl) (F 18 (by kernel_rfl) 76 rfl)
                    clear F hF hz
                    have hJ1 := hJ
                    obtain ⟨⟨⟨c0, c1, c2, c3, _⟩, _, _⟩, ⟨d0, d1, d2, d3, _⟩, _⟩ := hJ1
                    have heqb := HEB.out
                    go_simp
                    exact hK (.bool false) _ hJ (Below.refl _ _) rfl
                  refine Inv.from_cons _ _ _ _ rfl (fun _ a w hJ hF F K hK => ?_) ?_
                  · have hz : a.tmps.size = 126 := hF.size
                    have e74 : a.tmps[74]? = some (.bool false) := Inv2.some_slot (by rw [hz]; exact Nat.le_of_ble_eq_true rfl) (F 16 (by kernel_rfl) 74 rfl)
                    have e77 : a.tmps[77]? = some (.bool false) := Inv2.some_slot (by rw [hz]; exact Nat.le_of_ble_eq_true rfl) (F 19 (by kernel_rfl) 77 rfl)
                    clear F hF hz
                    have hJ1 := hJ
                    obtain ⟨⟨⟨c0, c1, c2, c3, _⟩, _, _⟩, ⟨d0, d1, d2, d3, _⟩, _⟩ := hJ1
                    go_simp
                    exact hK (.bool false) _ hJ (Below.refl _ _) rfl
                  refine Inv.from_cons _ _ _ _ rfl (fun _ a w hJ hF F K hK => ?_) ?_
                  · have hz : a.tmps.size = 126 := hF.size
                    have e4 : a.tmps[4]? = some (.pointer (some ⟨W.heap.size, 0, none⟩)) := Inv2.some_slot (by rw [hz]; exact Nat.le_of_ble_eq_true rfl) (hF.slot 4 (by kernel_rfl))
                    have e78 : a.tmps[78]? = some (.bool false) := Inv2.some_slot (by rw [hz]; exact Nat.le_of_ble_eq_true rfl) (F 20 (by kernel_rfl) 78 rfl)
                    clear F hF hz
                    have hJ1 := hJ
                    obtain ⟨⟨⟨c0, c1, c2, c3, _⟩, _, _⟩, ⟨d0, d1, d2, d3, _⟩, _⟩ := hJ1
                    go_simp
                    exact hK _ _ hJ (Below.refl _ _) trivial
                  refine Inv.from_cons _ _ _ _ rfl (fun _ a w hJ hF F K hK => ?_) ?_
                  · have hz : a.tmps.size = 126 := hF.size
                    have e3 : a.tmps[3]? = some (.string other) := Inv2.some_slot (by rw [hz]; exact Nat.le_of_ble_eq_true rfl) (hF.slot 3 (by kernel_rfl))
                    have e78 : a.tmps[78]? = some (.bool false) := Inv2.some_slot (by rw [hz]; exact Nat.le_of_ble_eq_true rfl) (F 20 (by kernel_rfl) 78 rfl)
                    clear F hF hz
                    have hJ1 := hJ
                    obtain ⟨⟨⟨c0, c1, c2, c3, _⟩, _, _⟩, ⟨d0, d1, d2, d3, _⟩, _⟩ := hJ1
                    go_simp
                    exact hK _ _ hJ (Below.refl _ _) trivial
                  refine Inv.from_cons _ _ _ _ rfl (fun _ a w hJ hF F K hK => ?_) ?_
                  · have hz : a.tmps.size = 126 := hF.size
                    have e78 : a.tmps[78]? = some (.bool false) := Inv2.some_slot (by rw [hz]; exact Nat.le_of_ble_eq_true rfl) (F 20 (by kernel_rfl) 78 rfl)
                    clear F hF hz
                    have hJ1 := hJ
                    obtain ⟨⟨⟨c0, c1, c2, c3, _⟩, _, _⟩, ⟨d0, d1, d2, d3, _⟩, _⟩ := hJ1
                    go_simp
                    exact hK _ _ hJ (Below.refl _ _) trivial
                  refine Inv.from_cons _ _ _ _ rfl (fun _ a w hJ hF F K hK => ?_) ?_
                  · have hz : a.tmps.size = 126 := hF.size
                    have e9 : a.tmps[9]? = some (.pointer (some ⟨g5, 0, none⟩)) := Inv2.some_slot (by rw [hz]; exact Nat.le_of_ble_eq_true rfl) (hF.slot 9 (by kernel_rfl))
                    have e78 : a.tmps[78]? = some (.bool false) := Inv2.some_slot (by rw [hz]; exact Nat.le_of_ble_eq_true rfl) (F 20 (by kernel_rfl) 78 rfl)
                    clear F hF hz
                    have hJ1 := hJ
                    obtain ⟨⟨⟨c0, c1, c2, c3, _⟩, _, _⟩, ⟨d0, d1, d2, d3, _⟩, _⟩ := hJ1
                    go_simp
                    exact hK _ _ hJ (Below.refl _ _) trivial
                  refine Inv.from_cons _ _ _ _ rfl (fun _ a w hJ hF F K hK => ?_) ?_
                  · have hz : a.tmps.size = 126 := hF.size
                    have e3 : a.tmps[3]? = some (.string other) := Inv2.some_slot (by rw [hz]; exact Nat.le_of_ble_eq_true rfl) (hF.slot 3 (by kernel_rfl))
                    have e78 : a.tmps[78]? = some (.bool false) := Inv2.some_slot (by rw [hz]; exact Nat.le_of_ble_eq_true rfl) (F 20 (by kernel_rfl) 78 rfl)
                    clear F hF hz
                    have hJ1 := hJ
                    obtain ⟨⟨⟨c0, c1, c2, c3, _⟩, _, _⟩, ⟨d0, d1, d2, d3, _⟩, _⟩ := hJ1
                    go_simp
                    exact hK _ _ hJ (Below.refl _ _) trivial
                  refine Inv.from_cons _ _ _ _ rfl (fun _ a w hJ hF F K hK => ?_) ?_
                  · have hz : a.tmps.size = 126 := hF.size
                    have e78 : a.tmps[78]? = some (.bool false) := Inv2.some_slot (by rw [hz]; exact Nat.le_of_ble_eq_true rfl) (F 20 (by kernel_rfl) 78 rfl)
                    clear F hF hz
                    have hJ1 := hJ
                    obtain ⟨⟨⟨c0, c1, c2, c3, _⟩, _, _⟩, ⟨d0, d1, d2, d3, _⟩, _⟩ := hJ1
                    go_simp
                    exact hK _ _ hJ (Below.refl _ _) trivial
                  refine Inv.from_cons _ _ _ _ rfl (fun _ a w hJ hF F K hK => ?_) ?_
                  · have hz : a.tmps.size = 126 := hF.size
                    have e78 : a.tmps[78]? = some (.bool false) := Inv2.some_slot (by rw [hz]; exact Nat.le_of_ble_eq_true rfl) (F 20 (by kernel_rfl) 78 rfl)
                    clear F hF hz
                    have hJ1 := hJ
                    obtain ⟨⟨⟨c0, c1, c2, c3, _⟩, _, _⟩, ⟨d0, d1, d2, d3, _⟩, _⟩ := hJ1
                    go_simp
                    exact hK _ _ hJ (Below.refl _ _) trivial
                  refine Inv.from_cons _ _ _ _ rfl (fun _ a w hJ hF F K hK => ?_) ?_
                  · have hz : a.tmps.size = 126 := hF.size
                    have e74 : a.tmps[74]? = some (.bool false) := Inv2.some_slot (by rw [hz]; exact Nat.le_of_ble_eq_true rfl) (F 16 (by kernel_rfl) 74 rfl)
                    have e78 : a.tmps[78]? = some (.bool false) := Inv2.some_slot (by rw [hz]; exact Nat.le_of_ble_eq_true rfl) (F 20 (by kernel_rfl) 78 rfl)
                    clear F hF hz
                    have hJ1 := hJ
                    obtain ⟨⟨⟨c0, c1, c2, c3, _⟩, _, _⟩, ⟨d0, d1, d2, d3, _⟩, _⟩ := hJ1
                    go_simp
                    exact hK (.bool false) _ hJ (Below.refl _ _) rfl
                  refine Inv.from_cons _ _ _ _ rfl (fun _ a w hJ hF F K hK => ?_) ?_
                  · have hz : a.tmps.size = 126 := hF.size
                    have e74 : a.tmps[74]? = some (.bool false) := Inv2.some_slot (by rw [hz]; exact Nat.le_of_ble_eq_true rfl) (F 16 (by kernel_rfl) 74 rfl)
                    have e86 : a.tmps[86]? = some (.bool false) := Inv2.some_slot (by rw [hz]; exact Nat.le_of_ble_eq_true rfl) (F 28 (by kernel_rfl) 86 rfl)
                    clear F hF hz
                    have hJ1 := hJ
                    obtain ⟨⟨⟨c0, c1, c2, c3, _⟩, _, _⟩, ⟨d0, d1, d2, d3, _⟩, _⟩ := hJ1
                    go_simp
                    exact hK (.bool false) _ hJ (Below.refl _ _) rfl
                  exact Inv.from_end _ _ _ _ (by decide +kernel)
                · intro o ho; exact absurd ho (by simp)
                · intro _ a w hJ hF F
                  obtain ⟨f, hf⟩ : ∃ f : Nat → Value, ∀ i, a.tmps.getD i undef = f i := ⟨_, fun _ => rfl⟩
                  have g1 : f 1 = (.string key) := (hf 1).symm.trans (hF.slot 1 (by kernel_rfl))
                  have g2 : f 2 = (.string value) := (hf 2).symm.trans (hF.slot 2 (by kernel_rfl))
                  have g3 : f 3 = (.string other) := (hf 3).symm.trans (hF.slot 3 (by kernel_rfl))
                  have g4 : f 4 = (.pointer (some ⟨W.heap.size, 0, none⟩)) := (hf 4).symm.trans (hF.slot 4 (by kernel_rfl))
                  have g9 : f 9 = (.pointer (some ⟨g5, 0, none⟩)) := (hf 9).symm.trans (hF.slot 9 (by kernel_rfl))
                  have g10 : f 10 = (.int .i64 (am : Int)) := (hf 10).symm.trans (hF.slot 10 (by kernel_rfl))
                  have g11 : f 11 = (.bool true) := (hf 11).symm.trans (hF.slot 11 (by kernel_rfl))
                  have g58 : f 58 = (nv m hm) := (hf 58).symm.trans (F 0 58 rfl)
                  have g59 : f 59 = (.int .i64 0) := (hf 59).symm.trans (F 1 59 rfl)
                  have g60 : f 60 = (.bool false) := (hf 60).symm.trans (F 2 60 rfl)
                  have g61 : f 61 = (.bool false) := (hf 61).symm.trans (F 3 61 rfl)
                  have g62 : f 62 = (.bool true) := (hf 62).symm.trans (F 4 62 rfl)
                  have g63 : f 63 = (.bool false) := (hf 63).symm.trans (F 5 63 rfl)
                  have g64 : f 64 = (.bool false) := (hf 64).symm.trans (F 6 64 rfl)
                  have g65 : f 65 = (.bool false) := (hf 65).symm.trans (F 7 65 rfl)
                  have g66 : f 66 = (.pointer (some ⟨g5, 2, none⟩)) := (hf 66).symm.trans (F 8 66 rfl)
                  have g67 : f 67 = (.slice (some ad) m.vals.length hm.vc) := (hf 67).symm.trans (F 9 67 rfl)
                  have g68 : f 68 = (.int .i64 (am : Int)) := (hf 68).symm.trans (F 10 68 rfl)
                  have g69 : f 69 = (.pointer (some (ad.add am))) := (hf 69).symm.trans (F 11 69 rfl)
                  have g70 : f 70 = (.string value) := (hf 70).symm.trans (F 12 70 rfl)
                  have g71 : f 71 = (.string value) := (hf 71).symm.trans (F 13 71 rfl)
                  have g72 : f 72 = (.bool false) := (hf 72).symm.trans (F 14 72 rfl)
                  have g73 : f 73 = (.bool false) := (hf 73).symm.trans (F 15 73 rfl)
                  have g74 : f 74 = (.bool false) := (hf 74).symm.trans (F 16 74 rfl)
                  have g75 : f 75 = (.string other) := (hf 75).symm.trans (F 17 75 rfl)
                  have g76 : f 76 = (.string key) := (hf 76).symm.trans (F 18 76 rfl)
                  have g77 : f 77 = (.bool false) := (hf 77).symm.trans (F 19 77 rfl)
                  have g78 : f 78 = (.bool false) := (hf 78).symm.trans (F 20 78 rfl)
                  have g86 : f 86 = (.bool false) := (hf 86).symm.trans (F 28 86 rfl)
                  have g87 : f 87 = (.bool false) := (hf 87).symm.trans (F 29 87 rfl)
                  have ha := Frames.frame (show a.tmps.size = 126 from hF.size) hF.defers hf (l := [f 0, f 1, f 2, f 3, f 4, f 5, f 6, f 7, f 8, f 9, f 10, f 11, f 12, f 13, f 14, f 15, f 16, f 17, f 18, f 19, f 20, f 21, f 22, f 23, f 24, f 25, f 26, f 27, f 28, f 29, f 30, f 31, f 32, f 33, f 34, f 35, f 36, f 37, f 38, f 39, f 40, f 41, f 42, f 43, f 44, f 45, f 46, f 47, f 48, f 49, f 50, f 51, f 52, f 53, f 54, f 55, f 56, f 57, f 58, f 59, f 60, f 61, f 62, f 63, f 64, f 65, f 66, f 67, f 68, f 69, f 70, f 71, f 72, f 73, f 74, f 75, f 76, f 77, f 78, f 79, f 80, f 81, f 82, f 83, f 84, f 85, f 86, f 87, f 88, f 89, f 90, f 91, f 92, f 93, f 94, f 95, f 96, f 97, f 98, f 99, f 100, f 101, f 102, f 103, f 104, f 105, f 106, f 107, f 108, f 109, f 110, f 111, f 112, f 113, f 114, f 115, f 116, f 117, f 118, f 119, f 120, f 121, f 122, f 123, f 124, f 125]) rfl
                  simp only [g1, g2, g3, g4, g9, g10, g11, g58, g59, g60, g61, g62, g63, g64, g65, g66, g67, g68, g69, g70, g71, g72, g73, g74, g75, g76, g77, g78, g86, g87] at ha
                  clear F hF hf g1 g2 g3 g4 g9 g10 g11 g58 g59 g60 g61 g62 g63 g64 g65 g66 g67 g68 g69 g70 g71 g72 g73 g74 g75 g76 g77 g78 g86 g87
                  subst ha
                  have hJ1 := hJ
                  obtain ⟨⟨⟨c0, c1, c2, c3, _⟩, _, _⟩, ⟨d0, d1, d2, d3, _⟩, _⟩ := hJ1
                  have hdr := drop_lf w (ins key value l) m hm key HQM.out HLF1.out (by omega) hJ.2.2
                  go_wp2_with fail
                  clear c0 c1 c2 c3 d0 d1 d2 d3
                  refine hdr.mono ?_
                  rintro e v7 ⟨v, rfl, hv, b7⟩
                  clear hdr
                  obtain ⟨s7, bx7, lm7⟩ : Begun W n h v7 ∧ Bx v7 g5 m hm ∧ Lay v7 m hm := ⟨hJ.1.below b7, hJ.2.1.below b7, hJ.2.2.below b7⟩
                  clear hJ b7
                  obtain ⟨d, hd, rfl, qd, ld⟩ := hv
                  have HQD := Lib.hid qd
                  have HLF2 := Lib.hid (HLF1.out.del key)
                  have HSD := Lib.hid (show Small d by rw [qd]; exact HLF2.out.small (by omega))
                  have hud : Up d.keys := by rw [qd]; exact HLF2.out.up
                  have HOD := Lib.hid (show Ok d by rw [qd]; exact ok_lfn (sz_del (sz_ins HSZ.out HKZ.out.1 HKZ.out.2) key) HLF2.out.up)
                  have hhd : has d.keys key = false := by rw [qd]; exact has_del key _
                  clear qd
                  have b8 := box_below v7 d hd
                  have bxd := bx_new v7 d hd
                  have ld8 := ld.below b8
                  have s8 := s7.below b8
                  have bx8 := bx7.below b8
                  have lm8 := lm7.below b8
                  obtain ⟨v8, hv8⟩ : ∃ v, v = box v7 d hd := ⟨_, rfl⟩
                  rw [← hv8] at bxd ld8 s8 bx8 lm8
                  unfold box at hv8
                  have HV8 := Lib.hid hv8
                  clear hv8 b8 s7 bx7 lm7 ld
                  have hfd := find_any v8 d hd key ld8 hud HSD.out.k
                  rw [hhd] at hfd
                  clear hud hhd
                  generalize at_ d key = adx at *
                  skip
                  go_wp2_with fail
                  rw [← HV8.out]
                  clear HV8
                  generalize v7.heap.size = g7 at *
                  refine hfd.mono ?_
                  rintro e v9 ⟨rfl, b9⟩
                  clear hfd
                  have s9 := s8.below b9
                  have bx9 := bx8.below b9
                  have lm9 := lm8.below b9
                  have bxd9 := bxd.below b9
                  have ld9 := ld8.below b9
                  clear s8 bx8 lm8 bxd ld8 b9
                  go_wp2_with fail
                  have hJ0 : (fun w' : World => Begun W n h w' ∧ Bx w' g5 m hm ∧ Lay w' m hm ∧ Bx w' g7 d hd ∧ Lay w' d hd) (World.drew v9) := ⟨s9.below (Below.refl _ _).drew, bx9.below (Below.refl _ _).drew, lm9.below (Below.refl _ _).drew, bxd9.below (Below.refl _ _).drew, ld9.below (Below.refl _ _).drew⟩
                  clear s9 bx9 lm9 bxd9 ld9
                  refine wp_region_any (by kernel_rfl) ?_
                  change wpAny _ _ _ _ _ _ _ (World.drew _)
                  refine Inv.inv_any (fun (i : Nat) (v : Value) (w : World) => match i with | 0 => v = nv d hd | 1 => v = .int .i64 0 | 2 => v = .bool true | 3 => v = .bool true | 4 => v = .bool false | 5 => v = .bool true | 6 => v = .bool true | 7 => v = .bool true | 8 => v = .string other | 9 => v = .string key | 10 => v = .bool true | 11 => v = .bool true | 19 => v = .bool true | 20 => v = .bool true | 21 => v = .bool true | 22 => v = nv m hm | 23 => v = .string key | 24 => v = .string value | 25 => Lv (ins key value l) v w | 26 => v = nv m hm | 27 => v = .bool true | 28 => v = .bool true | _ => True) (fun w' : World => Begun W n h w' ∧ Bx w' g5 m hm ∧ Lay w' m hm ∧ Bx w' g7 d hd ∧ Lay w' d hd) _ 29 126 rfl rfl rfl (by kernel_rfl) (by kernel_rfl) hJ0 ?_ ?_ ?_ ?_
                  · intro j v w w' h hb
                    match j, h with
                    | 0, h => exact h
                    | 1, h => exact h
                    | 2, h => exact h
                    | 3, h => exact h
                    | 4, h => exact h
                    | 5, h => exact h
                    | 6, h => exact h
                    | 7, h => exact h
                    | 8, h => exact h
                    | 9, h => exact h
                    | 10, h => exact h
                    | 11, h => exact h
                    | 19, h => exact h
                    | 20, h => exact h
                    | 21, h => exact h
                    | 22, h => exact h
                    | 23, h => exact h
                    | 24, h => exact h
                    | 25, h => exact Lv.below h hb
                    | 26, h => exact h
                    | 27, h => exact h
                    | 28, h => exact h
                    | 12, _ => exact trivial
                    | 13, _ => exact trivial
                    | 14, _ => exact trivial
                    | 15, _ => exact trivial
                    | 16, _ => exact trivial
                    | 17, _ => exact trivial
                    | 18, _ => exact trivial
                    | 29, _ => exact trivial
                    | (_ + 30), _ => exact trivial
                  · skip
                    refine Inv.from_cons _ _ _ _ rfl (fun _ a w hJ hF F K hK => ?_) ?_
                    · have hz : a.tmps.size = 126 := hF.size
                      have e12 : a.tmps[12]? = some (.pointer (some ⟨g7, 0, none⟩)) := Inv2.some_slot (by rw [hz]; exact Nat.le_of_ble_eq_true rfl) (hF.slot 12 (by kernel_rfl))
                      clear F hF hz
                      have hJ1 := hJ
                      obtain ⟨⟨⟨c0, c1, c2, c3, _⟩, _, _⟩, ⟨d0, d1, d2, d3, _⟩, _, ⟨p0, p1, p2, p3, _⟩, _⟩ := hJ1
                      go_simp
                      exact hK (nv d hd) _ hJ (Below.refl _ _) rfl
                    refine Inv.from_cons _ _ _ _ rfl (fun _ a w hJ hF F K hK => ?_) ?_
                    · have hz : a.tmps.size = 126 := hF.size
                      have e97 : a.tmps[97]? = some (nv d hd) := Inv2.some_slot (by rw [hz]; exact Nat.le_of_ble_eq_true rfl) (F 0 (by kernel_rfl) 97 rfl)
                      clear F hF hz
                      have hJ1 := hJ
                      obtain ⟨⟨⟨c0, c1, c2, c3, _⟩, _, _⟩, ⟨d0, d1, d2, d3, _⟩, _, ⟨p0, p1, p2, p3, _⟩, _⟩ := hJ1
                      have hh := check_any w d hd hJ.2.2.2.2 HSD.out 0 (.inr (.inr ⟨HOD.out.1, HOD.out.2, rfl⟩))
                      go_simp
                      (with_reducible refine hh.mono ?_)
                      rintro e w' ⟨rfl, hb⟩
                      go_simp
                      exact hK _ _ ⟨hJ.1.below hb, hJ.2.1.below hb, hJ.2.2.1.below hb, hJ.2.2.2.1.below hb, hJ.2.2.2.2.below hb⟩ hb rfl
                    refine Inv.from_cons _ _ _ _ rfl (fun _ a w hJ hF F K hK => ?_) ?_
                    · have hz : a.tmps.size = 126 := hF.size
                      have e98 : a.tmps[98]? = some (.int .i64 0) := Inv2.some_slot (by rw [hz]; exact Nat.le_of_ble_eq_true rfl) (F 1 (by kernel_rfl) 98 rfl)
                      clear F hF hz
                      have hJ1 := hJ
                      obtain ⟨⟨⟨c0, c1, c2, c3, _⟩, _, _⟩, ⟨d0, d1, d2, d3, _⟩, _, ⟨p0, p1, p2, p3, _⟩, _⟩ := hJ1
                      go_simp
                      exact hK (.bool true) _ hJ (Below.refl _ _) rfl
                    refine Inv.from_cons _ _ _ _ rfl (fun _ a w hJ hF F K hK => ?_) ?_
                    · have hz : a.tmps.size = 126 := hF.size
                      have e98 : a.tmps[98]? = some (.int .i64 0) := Inv2.some_slot (by rw [hz]; exact Nat.le_of_ble_eq_true rfl) (F 1 (by kernel_rfl) 98 rfl)
                      have e99 : a.tmps[99]? = some (.bool true) := Inv2.some_slot (by rw [hz]; exact Nat.le_of_ble_eq_true rfl) (F 2 (by kernel_rfl) 99 rfl)
                      clear F hF hz
                      have hJ1 := hJ
                      obtain ⟨⟨⟨c0, c1, c2, c3, _⟩, _, _⟩, ⟨d0, d1, d2, d3, _⟩, _, ⟨p0, p1, p2, p3, _⟩, _⟩ := hJ1
                      go_simp
                      exact hK (.bool true) _ hJ (Below.refl _ _) rfl
                    refine Inv.from_cons _ _ _ _ rfl (fun _ a w hJ hF F K hK => ?_) ?_
                    · have hz : a.tmps.size = 126 := hF.size
                      have e14 : a.tmps[14]? = some (.bool false) := Inv2.some_slot (by rw [hz]; exact Nat.le_of_ble_eq_true rfl) (hF.slot 14 (by kernel_rfl))
                      have e100 : a.tmps[100]? = some (.bool true) := Inv2.some_slot (by rw [hz]; exact Nat.le_of_ble_eq_true rfl) (F 3 (by kernel_rfl) 100 rfl)
                      clear F hF hz
                      have hJ1 := hJ
                      obtain ⟨⟨⟨c0, c1, c2, c3, _⟩, _, _⟩, ⟨d0, d1, d2, d3, _⟩, _, ⟨p0, p1, p2, p3, _⟩, _⟩ := hJ1
                      go_simp
                      exact hK (.bool false) _ hJ (Below.refl _ _) rfl
                    refine Inv.from_cons _ _ _ _ rfl (fun _ a w hJ hF F K hK => ?_) ?_
                    · have hz : a.tmps.size = 126 := hF.size
                      have e100 : a.tmps[100]? = some (.bool true) := Inv2.some_slot (by rw [hz]; exact Nat.le_of_ble_eq_true rfl) (F 3 (by kernel_rfl) 100 rfl)
                      have e101 : a.tmps[101]? = some (.bool false) := Inv2.some_slot (by rw [hz]; exact Nat.le_of_ble_eq_true rfl) (F 4 (by kernel_rfl) 101 rfl)
                      clear F hF hz
                      have hJ1 := hJ
                      obtain ⟨⟨⟨c0, c1, c2, c3, _⟩, _, _⟩, ⟨d0, d1, d2, d3, _⟩, _, ⟨p0, p1, p2, p3, _⟩, _⟩ := hJ1
                      go_simp
                      exact hK (.bool true) _ hJ (Below.refl _ _) rfl
                    refine Inv.from_cons _ _ _ _ rfl (fun _ a w hJ hF F K hK => ?_) ?_
                    · have hz : a.tmps.size = 126 := hF.size
                      have e100 : a.tmps[100]? = some (.bool true) := Inv2.some_slot (by rw [hz]; exact Nat.le_of_ble_eq_true rfl) (F 3 (by kernel_rfl) 100 rfl)
                      have e102 : a.tmps[102]? = some (.bool true) := Inv2.some_slot (by rw [hz]; exact Nat.le_of_ble_eq_true rfl) (F 5 (by kernel_rfl) 102 rfl)
                      clear F hF hz
                      have hJ1 := hJ
                      obtain ⟨⟨⟨c0, c1, c2, c3, _⟩, _, _⟩, ⟨d0, d1, d2, d3, _⟩, _, ⟨p0, p1, p2, p3, _⟩, _⟩ := hJ1
                      go_simp
                      exact hK (.bool true) _ hJ (Below.refl _ _) rfl
                    refine Inv.from_cons _ _ _ _ rfl (fun _ a w hJ hF F K hK => ?_) ?_
                    · have hz : a.tmps.size = 126 := hF.size
                      have e100 : a.tmps[100]? = some (.bool true) := Inv2.some_slot (by rw [hz]; exact Nat.le_of_ble_eq_true rfl) (F 3 (by kernel_rfl) 100 rfl)
                      have e103 : a.tmps[103]? = some (.bool true) := Inv2.some_slot (by rw [hz]; exact Nat.le_of_ble_eq_true rfl) (F 6 (by kernel_rfl) 103 rfl)
                      clear F hF hz
                      have hJ1 := hJ
                      obtain ⟨⟨⟨c0, c1, c2, c3, _⟩, _, _⟩, ⟨d0, d1, d2, d3, _⟩, _, ⟨p0, p1, p2, p3, _⟩, _⟩ := hJ1
                      go_simp
                      exact hK (.bool true) _ hJ (Below.refl _ _) rfl
                    refine Inv.from_cons _ _ _ _ rfl (fun _ a w hJ hF F K hK => ?_) ?_
                    · have hz : a.tmps.size = 126 := hF.size
                      have e3 : a.tmps[3]? = some (.string other) := Inv2.some_slot (by rw [hz]; exact Nat.le_of_ble_eq_true rfl) (hF.slot 3 (by kernel_rfl))
                      have e104 : a.tmps[104]? = some (.bool true) := Inv2.some_slot (by rw [hz]; exact Nat.le_of_ble_eq_true rfl) (F 7 (by kernel_rfl) 104 rfl)
                      clear F hF hz
                      have hJ1 := hJ
                      obtain ⟨⟨⟨c0, c1, c2, c3, _⟩, _, _⟩, ⟨d0, d1, d2, d3, _⟩, _, ⟨p0, p1, p2, p3, _⟩, _⟩ := hJ1
                      go_simp
                      exact hK (.string other) _ hJ (Below.refl _ _) rfl
                    refine Inv.from_cons _ _ _ _ rfl (fun _ a w hJ hF F K hK => ?_) ?_
                    · have hz : a.tmps.size = 126 := hF.size
                      have e1 : a.tmps[1]? = some (.string key) := Inv2.some_slot (by rw [hz]; exact Nat.le_of_ble_eq_true rfl) (hF.slot 1 (by kernel_rfl))
                      have e104 : a.tmps[104]? = some (.bool true) := Inv2.some_slot (by rw [hz]; exact Nat.le_of_ble_eq_true rfl) (F 7 (by kernel_rfl) 104 rfl)
                      clear F hF hz
                      have hJ1 := hJ
                      obtain ⟨⟨⟨c0, c1, c2, c3, _⟩, _, _⟩, ⟨d0, d1, d2, d3, _⟩, _, ⟨p0, p1, p2, p3, _⟩, _⟩ := hJ1
                      go_simp
                      exact hK (.string key) _ hJ (Below.refl _ _) rfl
                    refine Inv.from_cons _ _ _ _ rfl (fun _ a w hJ hF F K hK => ?_) ?_
                    · have hz : a.tmps.size = 126 := hF.size
                      have e104 : a.tmps[104]? = some (.bool true) := Inv2.some_slot (by rw [hz]; exact Nat.le_of_ble_eq_true rfl) (F 7 (by kernel_rfl) 104 rfl)
                      have e105 : a.tmps[105]? = some (.string other) := Inv2.some_slot (by rw [hz]; exact Nat.le_of_ble_eq_true rfl) (F 8 (by kernel_rfl) 105 rfl)
                      have e106 : a.tmps[106]? = some (.string key) := Inv2.some_slot (by rw [hz]; exact Nat.le_of_ble_eq_true rfl) (F 9 (by kernel_rfl) 106 rfl)
                      clear F hF hz
                      have hJ1 := hJ
                      obtain ⟨⟨⟨c0, c1, c2, c3, _⟩, _, _⟩, ⟨d0, d1, d2, d3, _⟩, _, ⟨p0, p1, p2, p3, _⟩, _⟩ := hJ1
                      have heqb := HEB.out
                      go_simp
                      exact hK (.bool true) _ hJ (Below.refl _ _) rfl
                    refine Inv.from_cons _ _ _ _ rfl (fun _ a w hJ hF F K hK => ?_) ?_
                    · have hz : a.tmps.size = 126 := hF.size
                      have e104 : a.tmps[104]? = some (.bool true) := Inv2.some_slot (by rw [hz]; exact Nat.le_of_ble_eq_true rfl) (F 7 (by kernel_rfl) 104 rfl)
                      have e107 : a.tmps[107]? = some (.bool true) := Inv2.some_slot (by rw [hz]; exact Nat.le_of_ble_eq_true rfl) (F 10 (by kernel_rfl) 107 rfl)
                      clear F hF hz
                      have hJ1 := hJ
                      obtain ⟨⟨⟨c0, c1, c2, c3, _⟩, _, _⟩, ⟨d0, d1, d2, d3, _⟩, _, ⟨p0, p1, p2, p3, _⟩, _⟩ := hJ1
                      go_simp
                      exact hK (.bool true) _ hJ (Below.refl _ _) rfl
                    refine Inv.from_cons _ _ _ _ rfl (fun _ a w hJ hF F K hK => ?_) ?_
                    · have hz : a.tmps.size = 126 := hF.size
                      have e12 : a.tmps[12]? = some (.pointer (some ⟨g7, 0, none⟩)) := Inv2.some_slot (by rw [hz]; exact Nat.le_of_ble_eq_true rfl) (hF.slot 12 (by kernel_rfl))
                      have e108 : a.tmps[108]? = some (.bool true) := Inv2.some_slot (by rw [hz]; exact Nat.le_of_ble_eq_true rfl) (F 11 (by kernel_rfl) 108 rfl)
                      clear F hF hz
                      have hJ1 := hJ
                      obtain ⟨⟨⟨c0, c1, c2, c3, _⟩, _, _⟩, ⟨d0, d1, d2, d3, _⟩, _, ⟨p0, p1, p2, p3, _⟩, _⟩ := hJ1
                      go_simp
                      exact hK _ _ hJ (Below.refl _ _) trivial
                    refine Inv.from_cons _ _ _ _ rfl (fun _ a w hJ hF F K hK => ?_) ?_
                    · have hz : a.tmps.size = 126 := hF.size
                      have e3 : a.tmps[3]? = some (.string other) := Inv2.some_slot (by rw [hz]; exact Nat.le_of_ble_eq_true rfl) (hF.slot 3 (by kernel_rfl))
                      have e108 : a.tmps[108]? = some (.bool true) := Inv2.some_slot (by rw [hz]; exact Nat.le_of_ble_eq_true rfl) (F 11 (by kernel_rfl) 108 rfl)
                      clear F hF hz
                      have hJ1 := hJ
                      obtain ⟨⟨⟨c0, c1, c2, c3, _⟩, _, _⟩, ⟨d0, d1, d2, d3, _⟩, _, ⟨p0, p1, p2, p3, _⟩, _⟩ := hJ1
                      go_simp
                      exact hK _ _ hJ (Below.refl _ _) trivial
                    refine Inv.from_cons _ _ _ _ rfl (fun _ a w hJ hF F K hK => ?_) ?_
                    · have hz : a.tmps.size = 126 := hF.size
                      have e108 : a.tmps[108]? = some (.bool true) := Inv2.some_slot (by rw [hz]; exact Nat.le_of_ble_eq_true rfl) (F 11 (by kernel_rfl) 108 rfl)
                      clear F hF hz
                      have hJ1 := hJ
                      obtain ⟨⟨⟨c0, c1, c2, c3, _⟩, _, _⟩, ⟨d0, d1, d2, d3, _⟩, _, ⟨p0, p1, p2, p3, _⟩, _⟩ := hJ1
                      go_simp
                      exact hK _ _ hJ (Below.refl _ _) trivial
                    refine Inv.from_cons _ _ _ _ rfl (fun _ a w hJ hF F K hK => ?_) ?_
                    · have hz : a.tmps.size = 126 := hF.size
                      have e4 : a.tmps[4]? = some (.pointer (some ⟨W.heap.size, 0, none⟩)) := Inv2.some_slot (by rw [hz]; exact Nat.le_of_ble_eq_true rfl) (hF.slot 4 (by kernel_rfl))
                      have e108 : a.tmps[108]? = some (.bool true) := Inv2.some_slot (by rw [hz]; exact Nat.le_of_ble_eq_true rfl) (F 11 (by kernel_rfl) 108 rfl)
                      clear F hF hz
                      have hJ1 := hJ
                      obtain ⟨⟨⟨c0, c1, c2, c3, _⟩, _, _⟩, ⟨d0, d1, d2, d3, _⟩, _, ⟨p0, p1, p2, p3, _⟩, _⟩ := hJ1
                      go_simp
                      exact hK _ _ hJ (Below.refl _ _) trivial
                    refine Inv.from_cons _ _ _ _ rfl (fun _ a w hJ hF F K hK => ?_) ?_
                    · have hz : a.tmps.size = 126 := hF.size
                      have e3 : a.tmps[3]? = some (.string other) := Inv2.some_slot (by rw [hz]; exact Nat.le_of_ble_eq_true rfl) (hF.slot 3 (by kernel_rfl))
                      have e108 : a.tmps[108]? = some (.bool true) := Inv2.some_slot (by rw [hz]; exact Nat.le_of_ble_eq_true rfl) (F 11 (by kernel_rfl) 108 rfl)
                      clear F hF hz
                      have hJ1 := hJ
                      obtain ⟨⟨⟨c0, c1, c2, c3, _⟩, _, _⟩, ⟨d0, d1, d2, d3, _⟩, _, ⟨p0, p1, p2, p3, _⟩, _⟩ := hJ1
                      go_simp
                      exact hK _ _ hJ (Below.refl _ _) trivial
                    refine Inv.from_cons _ _ _ _ rfl (fun _ a w hJ hF F K hK => ?_) ?_
                    · have hz : a.tmps.size = 126 := hF.size
                      have e108 : a.tmps[108]? = some (.bool true) := Inv2.some_slot (by rw [hz]; exact Nat.le_of_ble_eq_true rfl) (F 11 (by kernel_rfl) 108 rfl)
                      clear F hF hz
                      have hJ1 := hJ
                      obtain ⟨⟨⟨c0, c1, c2, c3, _⟩, _, _⟩, ⟨d0, d1, d2, d3, _⟩, _, ⟨p0, p1, p2, p3, _⟩, _⟩ := hJ1
                      go_simp
                      exact hK _ _ hJ (Below.refl _ _) trivial
                    refine Inv.from_cons _ _ _ _ rfl (fun _ a w hJ hF F K hK => ?_) ?_
                    · have hz : a.tmps.size = 126 := hF.size
                      have e108 : a.tmps[108]? = some (.bool true) := Inv2.some_slot (by rw [hz]; exact Nat.le_of_ble_eq_true rfl) (F 11 (by kernel_rfl) 108 rfl)
                      clear F hF hz
                      have hJ1 := hJ
                      obtain ⟨⟨⟨c0, c1, c2, c3, _⟩, _, _⟩, ⟨d0, d1, d2, d3, _⟩, _, ⟨p0, p1, p2, p3, _⟩, _⟩ := hJ1
                      go_simp
                      exact hK _ _ hJ (Below.refl _ _) trivial
                    refine Inv.from_cons _ _ _ _ rfl (fun _ a w hJ hF F K hK => ?_) ?_
                    · have hz : a.tmps.size = 126 := hF.size
                      have e104 : a.tmps[104]? = some (.bool true) := Inv2.some_slot (by rw [hz]; exact Nat.le_of_ble_eq_true rfl) (F 7 (by kernel_rfl) 104 rfl)
                      have e108 : a.tmps[108]? = some (.bool true) := Inv2.some_slot (by rw [hz]; exact Nat.le_of_ble_eq_true rfl) (F 11 (by kernel_rfl) 108 rfl)
                      clear F hF hz
                      have hJ1 := hJ
                      obtain ⟨⟨⟨c0, c1, c2, c3, _⟩, _, _⟩, ⟨d0, d1, d2, d3, _⟩, _, ⟨p0, p1, p2, p3, _⟩, _⟩ := hJ1
                      go_simp
                      exact hK (.bool true) _ hJ (Below.refl _ _) rfl
                    refine Inv.from_cons _ _ _ _ rfl (fun _ a w hJ hF F K hK => ?_) ?_
                    · have hz : a.tmps.size = 126 := hF.size
                      have e104 : a.tmps[104]? = some (.bool true) := Inv2.some_slot (by rw [hz]; exact Nat.le_of_ble_eq_true rfl) (F 7 (by kernel_rfl) 104 rfl)
                      have e116 : a.tmps[116]? = some (.bool true) := Inv2.some_slot (by rw [hz]; exact Nat.le_of_ble_eq_true rfl) (F 19 (by kernel_rfl) 116 rfl)
                      clear F hF hz
                      have hJ1 := hJ
                      obtain ⟨⟨⟨c0, c1, c2, c3, _⟩, _, _⟩, ⟨d0, d1, d2, d3, _⟩, _, ⟨p0, p1, p2, p3, _⟩, _⟩ := hJ1
                      go_simp
                      exact hK (.bool true) _ hJ (Below.refl _ _) rfl
                    refine Inv.from_cons _ _ _ _ rfl (fun _ a w hJ hF F K hK => ?_) ?_
                    · have hz : a.tmps.size = 126 := hF.size
                      have e117 : a.tmps[117]? = some (.bool true) := Inv2.some_slot (by rw [hz]; exact Nat.le_of_ble_eq_true rfl) (F 20 (by kernel_rfl) 117 rfl)
                      clear F hF hz
                      have hJ1 := hJ
                      obtain ⟨⟨⟨c0, c1, c2, c3, _⟩, _, _⟩, ⟨d0, d1, d2, d3, _⟩, _, ⟨p0, p1, p2, p3, _⟩, _⟩ := hJ1
                      go_simp
                      exact hK (.bool true) _ hJ (Below.refl _ _) rfl
                    refine Inv.from_cons _ _ _ _ rfl (fun _ a w hJ hF F K hK => ?_) ?_
                    · have hz : a.tmps.size = 126 := hF.size
                      have e9 : a.tmps[9]? = some (.pointer (some ⟨g5, 0, none⟩)) := Inv2.some_slot (by rw [hz]; exact Nat.le_of_ble_eq_true rfl) (hF.slot 9 (by kernel_rfl))
                      have e118 : a.tmps[118]? = some (.bool true) := Inv2.some_slot (by rw [hz]; exact Nat.le_of_ble_eq_true rfl) (F 21 (by kernel_rfl) 118 rfl)
                      clear F hF hz
                      have hJ1 := hJ
                      obtain ⟨⟨⟨c0, c1, c2, c3, _⟩, _, _⟩, ⟨d0, d1, d2, d3, _⟩, _, ⟨p0, p1, p2, p3, _⟩, _⟩ := hJ1
                      go_simp
                      exact hK (nv m hm) _ hJ (Below.refl _ _) rfl
                    refine Inv.from_cons _ _ _ _ rfl (fun _ a w hJ hF F K hK => ?_) ?_
                    · have hz : a.tmps.size = 126 := hF.size
                      have e1 : a.tmps[1]? = some (.string key) := Inv2.some_slot (by rw [hz]; exact Nat.le_of_ble_eq_true rfl) (hF.slot 1 (by kernel_rfl))
                      have e118 : a.tmps[118]? = some (.bool true) := Inv2.some_slot (by rw [hz]; exact Nat.le_of_ble_eq_true rfl) (F 21 (by kernel_rfl) 118 rfl)
                      clear F hF hz
                      have hJ1 := hJ
                      obtain ⟨⟨⟨c0, c1, c2, c3, _⟩, _, _⟩, ⟨d0, d1, d2, d3, _⟩, _, ⟨p0, p1, p2, p3, _⟩, _⟩ := hJ1
                      go_simp
                      exact hK (.string key) _ hJ (Below.refl _ _) rfl
                    refine Inv.from_cons _ _ _ _ rfl (fun _ a w hJ hF F K hK => ?_) ?_
                    · have hz : a.tmps.size = 126 := hF.size
                      have e2 : a.tmps[2]? = some (.string value) := Inv2.some_slot (by rw [hz]; exact Nat.le_of_ble_eq_true rfl) (hF.slot 2 (by kernel_rfl))
                      have e118 : a.tmps[118]? = some (.bool true) := Inv2.some_slot (by rw [hz]; exact Nat.le_of_ble_eq_true rfl) (F 21 (by kernel_rfl) 118 rfl)
                      clear F hF hz
                      have hJ1 := hJ
                      obtain ⟨⟨⟨c0, c1, c2, c3, _⟩, _, _⟩, ⟨d0, d1, d2, d3, _⟩, _, ⟨p0, p1, p2, p3, _⟩, _⟩ := hJ1
                      go_simp
                      exact hK (.string value) _ hJ (Below.refl _ _) rfl
                    refine Inv.from_cons _ _ _ _ rfl (fun _ a w hJ hF F K hK => ?_) ?_
                    · have hz : a.tmps.size = 126 := hF.size
                      have e118 : a.tmps[118]? = some (.bool true) := Inv2.some_slot (by rw [hz]; exact Nat.le_of_ble_eq_true rfl) (F 21 (by kernel_rfl) 118 rfl)
                      have e119 : a.tmps[119]? = some (nv m hm) := Inv2.some_slot (by rw [hz]; exact Nat.le_of_ble_eq_true rfl) (F 22 (by kernel_rfl) 119 rfl)
                      have e120 : a.tmps[120]? = some (.string key) := Inv2.some_slot (by rw [hz]; exact Nat.le_of_ble_eq_true rfl) (F 23 (by kernel_rfl) 120 rfl)
                      have e121 : a.tmps[121]? = some (.string value) := Inv2.some_slot (by rw [hz]; exact Nat.le_of_ble_eq_true rfl) (F 24 (by kernel_rfl) 121 rfl)
                      clear F hF hz
                      have hJ1 := hJ
                      obtain ⟨⟨⟨c0, c1, c2, c3, _⟩, _, _⟩, ⟨d0, d1, d2, d3, _⟩, _, ⟨p0, p1, p2, p3, _⟩, _⟩ := hJ1
                      have hh := put_lf w (ins key value l) m hm key value HQM.out HLF1.out (by omega) hJ.2.2.1
                      rw [ins_idem] at hh
                      go_simp
                      (with_reducible refine hh.mono ?_)
                      rintro e w' ⟨v, rfl, hv, hb⟩
                      go_simp
                      exact hK _ _ ⟨hJ.1.below hb, hJ.2.1.below hb, hJ.2.2.1.below hb, hJ.2.2.2.1.below hb, hJ.2.2.2.2.below hb⟩ hb hv
                    refine Inv.from_cons _ _ _ _ rfl (fun _ a w hJ hF F K hK => ?_) ?_
                    · have hz : a.tmps.size = 126 := hF.size
                      have e9 : a.tmps[9]? = some (.pointer (some ⟨g5, 0, none⟩)) := Inv2.some_slot (by rw [hz]; exact Nat.le_of_ble_eq_true rfl) (hF.slot 9 (by kernel_rfl))
                      have e118 : a.tmps[118]? = some (.bool true) := Inv2.some_slot (by rw [hz]; exact Nat.le_of_ble_eq_true rfl) (F 21 (by kernel_rfl) 118 rfl)
                      clear F hF hz
                      have hJ1 := hJ
                      obtain ⟨⟨⟨c0, c1, c2, c3, _⟩, _, _⟩, ⟨d0, d1, d2, d3, _⟩, _, ⟨p0, p1, p2, p3, _⟩, _⟩ := hJ1
                      go_simp
                      exact hK (nv m hm) _ hJ (Below.refl _ _) rfl
                    refine Inv.from_cons _ _ _ _ rfl (fun _ a w hJ hF F K hK => ?_) ?_
                    · have hz : a.tmps.size = 126 := hF.size
                      have e118 : a.tmps[118]? = some (.bool true) := Inv2.some_slot (by rw [hz]; exact Nat.le_of_ble_eq_true rfl) (F 21 (by kernel_rfl) 118 rfl)
                      obtain ⟨x122, e122, f25⟩ : ∃ x, a.tmps[122]? = some x ∧ Lv (ins key value l) x w := ⟨_, Inv2.some_slot (by rw [hz]; exact Nat.le_of_ble_eq_true rfl) rfl, F 25 (by kernel_rfl) 122 rfl⟩
                      have e123 : a.tmps[123]? = some (nv m hm) := Inv2.some_slot (by rw [hz]; exact Nat.le_of_ble_eq_true rfl) (F 26 (by kernel_rfl) 123 rfl)
                      clear F hF hz
                      have hJ1 := hJ
                      obtain ⟨⟨⟨c0, c1, c2, c3, _⟩, _, _⟩, ⟨d0, d1, d2, d3, _⟩, _, ⟨p0, p1, p2, p3, _⟩, _⟩ := hJ1
                      obtain ⟨m6, h6, rfl, q6, l6⟩ := f25
                      have h6s : Small m6 := by rw [q6]; exact HLF1.out.small (by omega)
                      have hh := rsame_any w m6 m h6 hm l6 hJ.2.2.1 h6s.k HSM.out.k h6s.v HSM.out.v h6s.d true ⟨fun _ => q6.trans HQM.out.symm, fun _ => rfl⟩
                      clear h6s q6
                      go_simp
                      (with_reducible refine hh.mono ?_)
                      rintro e w' ⟨rfl, hb⟩
                      go_simp
                      exact hK _ _ ⟨hJ.1.below hb, hJ.2.1.below hb, hJ.2.2.1.below hb, hJ.2.2.2.1.below hb, hJ.2.2.2.2.below hb⟩ hb rfl
                    refine Inv.from_cons _ _ _ _ rfl (fun _ a w hJ hF F K hK => ?_) ?_
                    · have hz : a.tmps.size = 126 := hF.size
                      have e118 : a.tmps[118]? = some (.bool true) := Inv2.some_slot (by rw [hz]; exact Nat.le_of_ble_eq_true rfl) (F 21 (by kernel_rfl) 118 rfl)
                      have e124 : a.tmps[124]? = some (.bool true) := Inv2.some_slot (by rw [hz]; exact Nat.le_of_ble_eq_true rfl) (F 27 (by kernel_rfl) 124 rfl)
                      clear F hF hz
                      have hJ1 := hJ
                      obtain ⟨⟨⟨c0, c1, c2, c3, _⟩, _, _⟩, ⟨d0, d1, d2, d3, _⟩, _, ⟨p0, p1, p2, p3, _⟩, _⟩ := hJ1
                      go_simp
                      exact hK (.bool true) _ hJ (Below.refl _ _) rfl
                    refine Inv.from_skip _ _ _ _ rfl ?_
                    exact Inv.from_end _ _ _ _ (by decide +kernel)
                  · intro o ho a w hJ hF F K hK
                    injection (show some _ = some o from ho) with ho
                    subst ho
                    obtain ⟨f, hf⟩ : ∃ f : Nat → Value, ∀ i, a.tmps.getD i undef = f i := ⟨_, fun _ => rfl⟩
                    have g1 : f 1 = (.string key) := (hf 1).symm.trans (hF.slot 1 (by kernel_rfl))
                    have g2 : f 2 = (.string value) := (hf 2).symm.trans (hF.slot 2 (by kernel_rfl))
                    have g3 : f 3 = (.string other) := (hf 3).symm.trans (hF.slot 3 (by kernel_rfl))
                    have g4 : f 4 = (.pointer (some ⟨W.heap.size, 0, none⟩)) := (hf 4).symm.trans (hF.slot 4 (by kernel_rfl))
                    have g9 : f 9 = (.pointer (some ⟨g5, 0, none⟩)) := (hf 9).symm.trans (hF.slot 9 (by kernel_rfl))
                    have g10 : f 10 = (.int .i64 (am : Int)) := (hf 10).symm.trans (hF.slot 10 (by kernel_rfl))
                    have g11 : f 11 = (.bool true) := (hf 11).symm.trans (hF.slot 11 (by kernel_rfl))
                    have g12 : f 12 = (.pointer (some ⟨g7, 0, none⟩)) := (hf 12).symm.trans (hF.slot 12 (by kernel_rfl))
                    have g14 : f 14 = (.bool false) := (hf 14).symm.trans (hF.slot 14 (by kernel_rfl))
                    have g97 : f 97 = (nv d hd) := (hf 97).symm.trans (F 0 (by decide) 97 rfl)
                    have g98 : f 98 = (.int .i64 0) := (hf 98).symm.trans (F 1 (by decide) 98 rfl)
                    have g99 : f 99 = (.bool true) := (hf 99).symm.trans (F 2 (by decide) 99 rfl)
                    have g100 : f 100 = (.bool true) := (hf 100).symm.trans (F 3 (by decide) 100 rfl)
                    have g101 : f 101 = (.bool false) := (hf 101).symm.trans (F 4 (by decide) 101 rfl)
                    have g102 : f 102 = (.bool true) := (hf 102).symm.trans (F 5 (by decide) 102 rfl)
                    have g103 : f 103 = (.bool true) := (hf 103).symm.trans (F 6 (by decide) 103 rfl)
                    have g104 : f 104 = (.bool true) := (hf 104).symm.trans (F 7 (by decide) 104 rfl)
                    have g105 : f 105 = (.string other) := (hf 105).symm.trans (F 8 (by decide) 105 rfl)
                    have g106 : f 106 = (.string key) := (hf 106).symm.trans (F 9 (by decide) 106 rfl)
                    have g107 : f 107 = (.bool true) := (hf 107).symm.trans (F 10 (by decide) 107 rfl)
                    have g108 : f 108 = (.bool true) := (hf 108).symm.trans (F 11 (by decide) 108 rfl)
                    have g116 : f 116 = (.bool true) := (hf 116).symm.trans (F 19 (by decide) 116 rfl)
                    have g117 : f 117 = (.bool true) := (hf 117).symm.trans (F 20 (by decide) 117 rfl)
                    have g118 : f 118 = (.bool true) := (hf 118).symm.trans (F 21 (by decide) 118 rfl)
                    have g119 : f 119 = (nv m hm) := (hf 119).symm.trans (F 22 (by decide) 119 rfl)
                    have g120 : f 120 = (.string key) := (hf 120).symm.trans (F 23 (by decide) 120 rfl)
                    have g121 : f 121 = (.string value) := (hf 121).symm.trans (F 24 (by decide) 121 rfl)
                    obtain ⟨x122, g122⟩ : ∃ x, f 122 = x := ⟨_, rfl⟩
                    have f25 : Lv (ins key value l) x122 w := by rw [← g122, ← hf 122]; exact F 25 (by decide) 122 rfl
                    have g123 : f 123 = (nv m hm) := (hf 123).symm.trans (F 26 (by decide) 123 rfl)
                    have g124 : f 124 = (.bool true) := (hf 124).symm.trans (F 27 (by decide) 124 rfl)
                    have g125 : f 125 = (.bool true) := (hf 125).symm.trans (F 28 (by decide) 125 rfl)
                    have ha := Frames.frame (show a.tmps.size = 126 from hF.size) hF.defers hf (l := [f 0, f 1, f 2, f 3, f 4, f 5, f 6, f 7, f 8, f 9, f 10, f 11, f 12, f 13, f 14, f 15, f 16, f 17, f 18, f 19, f 20, f 21, f 22, f 23, f 24, f 25, f 26, f 27, f 28, f 29, f 30, f 31, f 32, f 33, f 34, f 35, f 36, f 37, f 38, f 39, f 40, f 41, f 42, f 43, f 44, f 45, f 46, f 47, f 48, f 49, f 50, f 51, f 52, f 53, f 54, f 55, f 56, f 57, f 58, f 59, f 60, f 61, f 62, f 63, f 64, f 65, f 66, f 67, f 68, f 69, f 70, f 71, f 72, f 73, f 74, f 75, f 76, f 77, f 78, f 79, f 80, f 81, f 82, f 83, f 84, f 85, f 86, f 87, f 88, f 89, f 90, f 91, f 92, f 93, f 94, f 95, f 96, f 97, f 98, f 99, f 100, f 101, f 102, f 103, f 104, f 105, f 106, f 107, f 108, f 109, f 110, f 111, f 112, f 113, f 114, f 115, f 116, f 117, f 118, f 119, f 120, f 121, f 122, f 123, f 124, f 125]) rfl
                    simp only [g1, g2, g3, g4, g9, g10, g11, g12, g14, g97, g98, g99, g100, g101, g102, g103, g104, g105, g106, g107, g108, g116, g117, g118, g119, g120, g121, g122, g123, g124, g125] at ha
                    clear F hF hf g1 g2 g3 g4 g9 g10 g11 g12 g14 g97 g98 g99 g100 g101 g102 g103 g104 g105 g106 g107 g108 g116 g117 g118 g119 g120 g121 g122 g123 g124 g125
                    subst ha
                    have hJ1 := hJ
                    obtain ⟨⟨⟨c0, c1, c2, c3, _⟩, _, _⟩, ⟨d0, d1, d2, d3, _⟩, _, ⟨p0, p1, p2, p3, _⟩, _⟩ := hJ1
                    go_simp
                    refine hK _ _ ?_
                    clear hK
                    go_wp2_with fail
                    go_ret
                    exact ⟨rfl, hJ.1.2.2⟩
                  · intro hq; exact absurd hq (by decide +kernel)
              · have HEB := Lib.hid (show (other.toList == key.toList) = false by rw [Str.ba_beq, decide_eq_false_iff_not]; exact hne)
                have HNE := Lib.hid hne
                clear hne
                have hJ0 : (fun w' : World => Begun W n h w' ∧ Bx w' g5 m hm ∧ Lay w' m hm) (World.drew v6) := ⟨s6.below (Below.refl _ _).drew, bx6.below (Below.refl _ _).drew, lm6.below (Below.refl _ _).drew⟩
                clear s6 bx6 lm6
                refine wp_region_any (by kernel_rfl) ?_
                change wpAny _ _ _ _ _ _ _ (World.drew _)
                refine Inv.inv_any (fun (i : Nat) (v : Value) (w : World) => match i with | 0 => v = nv m hm | 1 => v = .int .i64 0 | 2 => v = .bool false | 3 => v = .bool false | 4 => v = .bool true | 5 => v = .bool false | 6 => v = .bool false | 7 => v = .bool false | 8 => v = .pointer (some ⟨g5, 2, none⟩) | 9 => v = .slice (some ad) m.vals.length hm.vc | 10 => v = .int .i64 (am : Int) | 11 => v = .pointer (some (ad.add am)) | 12 => v = .string value | 13 => v = .string value | 14 => v = .bool false | 15 => v = .bool false | 16 => v = .bool false | 17 => v = .string other | 18 => v = .string key | 19 => v = .bool true | 20 => v = .bool true | 21 => v = nv n h | 22 => v = .string other | 23 => v = .string (gt l other) | 24 => v = nv m hm | 25 => v = .string other | 26 => v = .string (gt l other) | 27 => v = .bool false | 28 => v = .bool false | 29 => v = .bool false | _ => True) (fun w' : World => Begun W n h w' ∧ Bx w' g5 m hm ∧ Lay w' m hm) _ 30 126 rfl rfl rfl (by kernel_rfl) (by kernel_rfl) hJ0 ?_ ?_ ?_ ?_
                · intro j v w w' h hb
                  match j, h with
                  | 0, h => exact h
                  | 1, h => exact h
                  | 2, h => exact h
                  | 3, h => exact h
                  | 4, h => exact h
                  | 5, h => exact h
                  | 6, h => exact h
                  | 7, h => exact h
                  | 8, h => exact h
                  | 9, h => exact h
                  | 10, h => exact h
                  | 11, h => exact h
                  | 12, h => exact h
                  | 13, h => exact h
                  | 14, h => exact h
                  | 15, h => exact h
                  | 16, h => exact h
                  | 17, h => exact h
                  | 18, h => exact h
                  | 19, h => exact h
                  | 20, h => exact h
                  | 21, h => exact h
                  | 22, h => exact h
                  | 23, h => exact h
                  | 24, h => exact h
                  | 25, h => exact h
                  | 26, h => exact h
                  | 27, h => exact h
                  | 28, h => exact h
                  | 29, h => exact h
                  | (_ + 30), _ => exact trivial
                · skip
                  refine Inv.from_cons _ _ _ _ rfl (fun _ a w hJ hF F K hK => ?_) ?_
                  · have hz : a.tmps.size = 126 := hF.size
                    have e9 : a.tmps[9]? = some (.pointer (some ⟨g5, 0, none⟩)) := Inv2.some_slot (by rw [hz]; exact Nat.le_of_ble_eq_true rfl) (hF.slot 9 (by kernel_rfl))
                    clear F hF hz
                    have hJ1 := hJ
                    obtain ⟨⟨⟨c0, c1, c2, c3, _⟩, _, _⟩, ⟨d0, d1, d2, d3, _⟩, _⟩ := hJ1
                    go_simp
                    exact hK (nv m hm) _ hJ (Below.refl _ _) rfl
                  refine Inv.from_cons _ _ _ _ rfl (fun _ a w hJ hF F K hK => ?_) ?_
                  · have hz : a.tmps.size = 126 := hF.size
                    have e58 : a.tmps[58]? = some (nv m hm) := Inv2.some_slot (by rw [hz]; exact Nat.le_of_ble_eq_true rfl) (F 0 (by kernel_rfl) 58 rfl)
                    clear F hF hz
                    have hJ1 := hJ
                    obtain ⟨⟨⟨c0, c1, c2, c3, _⟩, _, _⟩, ⟨d0, d1, d2, d3, _⟩, _⟩ := hJ1
                    have hh := check_any w m hm hJ.2.2 HSM.out 0 (.inr (.inr ⟨HOM.out.1, HOM.out.2, rfl⟩))
                    go_simp
                    (with_reducible refine hh.mono ?_)
                    rintro e w' ⟨rfl, hb⟩
                    go_simp
                    exact hK _ _ ⟨hJ.1.below hb, hJ.2.1.below hb, hJ.2.2.below hb⟩ hb rfl
                  refine Inv.from_cons _ _ _ _ rfl (fun _ a w hJ hF F K hK => ?_) ?_
                  · have hz : a.tmps.size = 126 := hF.size
                    have e59 : a.tmps[59]? = some (.int .i64 0) := Inv2.some_slot (by rw [hz]; exact Nat.le_of_ble_eq_true rfl) (F 1 (by kernel_rfl) 59 rfl)
                    clear F hF hz
                    have hJ1 := hJ
                    obtain ⟨⟨⟨c0, c1, c2, c3, _⟩, _, _⟩, ⟨d0, d1, d2, d3, _⟩, _⟩ := hJ1
                    go_simp
                    exact hK (.bool false) _ hJ (Below.refl _ _) rfl
                  refine Inv.from_cons _ _ _ _ rfl (fun _ a w hJ hF F K hK => ?_) ?_
                  · have hz : a.tmps.size = 126 := hF.size
                    have e59 : a.tmps[59]? = some (.int .i64 0) := Inv2.some_slot (by rw [hz]; exact Nat.le_of_ble_eq_true rfl) (F 1 (by kernel_rfl) 59 rfl)
                    have e60 : a.tmps[60]? = some (.bool false) := Inv2.some_slot (by rw [hz]; exact Nat.le_of_ble_eq_true rfl) (F 2 (by kernel_rfl) 60 rfl)
                    clear F hF hz
                    have hJ1 := hJ
                    obtain ⟨⟨⟨c0, c1, c2, c3, _⟩, _, _⟩, ⟨d0, d1, d2, d3, _⟩, _⟩ := hJ1
                    go_simp
                    exact hK (.bool false) _ hJ (Below.refl _ _) rfl
                  refine Inv.from_cons _ _ _ _ rfl (fun _ a w hJ hF F K hK => ?_) ?_
                  · have hz : a.tmps.size = 126 := hF.size
                    have e11 : a.tmps[11]? = some (.bool true) := Inv2.some_slot (by rw [hz]; exact Nat.le_of_ble_eq_true rfl) (hF.slot 11 (by kernel_rfl))
                    have e61 : a.tmps[61]? = some (.bool false) := Inv2.some_slot (by rw [hz]; exact Nat.le_of_ble_eq_true rfl) (F 3 (by kernel_rfl) 61 rfl)
                    clear F hF hz
                    have hJ1 := hJ
                    obtain ⟨⟨⟨c0, c1, c2, c3, _⟩, _, _⟩, ⟨d0, d1, d2, d3, _⟩, _⟩ := hJ1
                    go_simp
                    exact hK (.bool true) _ hJ (Below.refl _ _) rfl
                  refine Inv.from_cons _ _ _ _ rfl (fun _ a w hJ hF F K hK => ?_) ?_
                  · have hz : a.tmps.size = 126 := hF.size
                    have e61 : a.tmps[61]? = some (.bool false) := Inv2.some_slot (by rw [hz]; exact Nat.le_of_ble_eq_true rfl) (F 3 (by kernel_rfl) 61 rfl)
                    have e62 : a.tmps[62]? = some (.bool true) := Inv2.some_slot (by rw [hz]; exact Nat.le_of_ble_eq_true rfl) (F 4 (by kernel_rfl) 62 rfl)
                    clear F hF hz
                    have hJ1 := hJ
                    obtain ⟨⟨⟨c0, c1, c2, c3, _⟩, _, _⟩, ⟨d0, d1, d2, d3, _⟩, _⟩ := hJ1
                    go_simp
                    exact hK (.bool false) _ hJ (Below.refl _ _) rfl
                  refine Inv.from_cons _ _ _ _ rfl (fun _ a w hJ hF F K hK => ?_) ?_
                  · have hz : a.tmps.size = 126 := hF.size
                    have e61 : a.tmps[61]? = some (.bool false) := Inv2.some_slot (by rw [hz]; exact Nat.le_of_ble_eq_true rfl) (F 3 (by kernel_rfl) 61 rfl)
                    have e63 : a.tmps[63]? = some (.bool false) := Inv2.some_slot (by rw [hz]; exact Nat.le_of_ble_eq_true rfl) (F 5 (by kernel_rfl) 63 rfl)
                    clear F hF hz
                    have hJ1 := hJ
                    obtain ⟨⟨⟨c0, c1, c2, c3, _⟩, _, _⟩, ⟨d0, d1, d2, d3, _⟩, _⟩ := hJ1
                    go_simp
                    exact hK (.bool false) _ hJ (Below.refl _ _) rfl
                  refine Inv.from_cons _ _ _ _ rfl (fun _ a w hJ hF F K hK => ?_) ?_
                  · have hz : a.tmps.size = 126 := hF.size
                    have e61 : a.tmps[61]? = some (.bool false) := Inv2.some_slot (by rw [hz]; exact Nat.le_of_ble_eq_true rfl) (F 3 (by kernel_rfl) 61 rfl)
                    have e64 : a.tmps[64]? = some (.bool false) := Inv2.some_slot (by rw [hz]; exact Nat.le_of_ble_eq_true rfl) (F 6 (by kernel_rfl) 64 rfl)
                    clear F hF hz
                    have hJ1 := hJ
                    obtain ⟨⟨⟨c0, c1, c2, c3, _⟩, _, _⟩, ⟨d0, d1, d2, d3, _⟩, _⟩ := hJ1
                    go_simp
                    exact hK (.bool false) _ hJ (Below.refl _ _) rfl
                  refine Inv.from_cons _ _ _ _ rfl (fun _ a w hJ hF F K hK => ?_) ?_
                  · have hz : a.tmps.size = 126 := hF.size
                    have e9 : a.tmps[9]? = some (.pointer (some ⟨g5, 0, none⟩)) := Inv2.some_slot (by rw [hz]; exact Nat.le_of_ble_eq_true rfl) (hF.slot 9 (by kernel_rfl))
                    have e65 : a.tmps[65]? = some (.bool false) := Inv2.some_slot (by rw [hz]; exact Nat.le_of_ble_eq_true rfl) (F 7 (by kernel_rfl) 65 rfl)
                    clear F hF hz
                    have hJ1 := hJ
                    obtain ⟨⟨⟨c0, c1, c2, c3, _⟩, _, _⟩, ⟨d0, d1, d2, d3, _⟩, _⟩ := hJ1
                    go_simp
                    exact hK (.pointer (some ⟨g5, 2, none⟩)) _ hJ (Below.refl _ _) rfl
                  refine Inv.from_cons _ _ _ _ rfl (fun _ a w hJ hF F K hK => ?_) ?_
                  · have hz : a.tmps.size = 126 := hF.size
                    have e65 : a.tmps[65]? = some (.bool false) := Inv2.some_slot (by rw [hz]; exact Nat.le_of_ble_eq_true rfl) (F 7 (by kernel_rfl) 65 rfl)
                    have e66 : a.tmps[66]? = some (.pointer (some ⟨g5, 2, none⟩)) := Inv2.some_slot (by rw [hz]; exact Nat.le_of_ble_eq_true rfl) (F 8 (by kernel_rfl) 66 rfl)
                    clear F hF hz
                    have hJ1 := hJ
                    obtain ⟨⟨⟨c0, c1, c2, c3, _⟩, _, _⟩, ⟨d0, d1, d2, d3, _⟩, _⟩ := hJ1
                    rw [HVA.out] at d2
                    go_simp
                    exact hK (.slice (some ad) m.vals.length hm.vc) _ hJ (Below.refl _ _) rfl
                  refine Inv.from_cons _ _ _ _ rfl (fun _ a w hJ hF F K hK => ?_) ?_
                  · have hz : a.tmps.size = 126 := hF.size
                    have e10 : a.tmps[10]? = some (.int .i64 (am : Int)) := Inv2.some_slot (by rw [hz]; exact Nat.le_of_ble_eq_true rfl) (hF.slot 10 (by kernel_rfl))
                    have e65 : a.tmps[65]? = some (.bool false) := Inv2.some_slot (by rw [hz]; exact Nat.le_of_ble_eq_true rfl) (F 7 (by kernel_rfl) 65 rfl)
                    clear F hF hz
                    have hJ1 := hJ
                    obtain ⟨⟨⟨c0, c1, c2, c3, _⟩, _, _⟩, ⟨d0, d1, d2, d3, _⟩, _⟩ := hJ1
                    go_simp
                    exact hK (.int .i64 (am : Int)) _ hJ (Below.refl _ _) rfl
                  refine Inv.from_cons _ _ _ _ rfl (fun _ a w hJ hF F K hK => ?_) ?_
                  · have hz : a.tmps.size = 126 := hF.size
                    have e65 : a.tmps[65]? = some (.bool false) := Inv2.some_slot (by rw [hz]; exact Nat.le_of_ble_eq_true rfl) (F 7 (by kernel_rfl) 65 rfl)
                    have e67 : a.tmps[67]? = some (.slice (some ad) m.vals.length hm.vc) := Inv2.some_slot (by rw [hz]; exact Nat.le_of_ble_eq_true rfl) (F 9 (by kernel_rfl) 67 rfl)
                    have e68 : a.tmps[68]? = some (.int .i64 (am : Int)) := Inv2.some_slot (by rw [hz]; exact Nat.le_of_ble_eq_true rfl) (F 10 (by kernel_rfl) 68 rfl)
                    clear F hF hz
                    have hJ1 := hJ
                    obtain ⟨⟨⟨c0, c1, c2, c3, _⟩, _, _⟩, ⟨d0, d1, d2, d3, _⟩, _⟩ := hJ1
                    have i1 : (am : Int) < (m.vals.length : Int) := by have := HLT.out; omega
                    go_simp
                    exact hK (.pointer (some (ad.add am))) _ hJ (Below.refl _ _) rfl
                  refine Inv.from_cons _ _ _ _ rfl (fun _ a w hJ hF F K hK => ?_) ?_
                  · have hz : a.tmps.size = 126 := hF.size
                    have e65 : a.tmps[65]? = some (.bool false) := Inv2.some_slot (by rw [hz]; exact Nat.le_of_ble_eq_true rfl) (F 7 (by kernel_rfl) 65 rfl)
                    have e69 : a.tmps[69]? = some (.pointer (some (ad.add am))) := Inv2.some_slot (by rw [hz]; exact Nat.le_of_ble_eq_true rfl) (F 11 (by kernel_rfl) 69 rfl)
                    clear F hF hz
                    have hJ1 := hJ
                    obtain ⟨⟨⟨c0, c1, c2, c3, _⟩, _, _⟩, ⟨d0, d1, d2, d3, _⟩, _⟩ := hJ1
                    obtain ⟨ad', hV', _, hcell⟩ := strs_get hJ.2.2.v am HLT.out
                    rw [HVA.out] at hV'
                    injection hV' with hV'
                    subst hV'
                    rw [HVAL.out HLT.out] at hcell
                    go_simp
                    exact hK (.string value) _ hJ (Below.refl _ _) rfl
                  refine Inv.from_cons _ _ _ _ rfl (fun _ a w hJ hF F K hK => ?_) ?_
                  · have hz : a.tmps.size = 126 := hF.size
                    have e2 : a.tmps[2]? = some (.string value) := Inv2.some_slot (by rw [hz]; exact Nat.le_of_ble_eq_true rfl) (hF.slot 2 (by kernel_rfl))
                    have e65 : a.tmps[65]? = some (.bool false) := Inv2.some_slot (by rw [hz]; exact Nat.le_of_ble_eq_true rfl) (F 7 (by kernel_rfl) 65 rfl)
                    clear F hF hz
                    have hJ1 := hJ
                    obtain ⟨⟨⟨c0, c1, c2, c3, _⟩, _, _⟩, ⟨d0, d1, d2, d3, _⟩, _⟩ := hJ1
                    go_simp
                    exact hK (.string value) _ hJ (Below.refl _ _) rfl
                  refine Inv.from_cons _ _ _ _ rfl (fun _ a w hJ hF F K hK => ?_) ?_
                  · have hz : a.tmps.size = 126 := hF.size
                    have e65 : a.tmps[65]? = some (.bool false) := Inv2.some_slot (by rw [hz]; exact Nat.le_of_ble_eq_true rfl) (F 7 (by kernel_rfl) 65 rfl)
                    have e70 : a.tmps[70]? = some (.string value) := Inv2.some_slot (by rw [hz]; exact Nat.le_of_ble_eq_true rfl) (F 12 (by kernel_rfl) 70 rfl)
                    have e71 : a.tmps[71]? = some (.string value) := Inv2.some_slot (by rw [hz]; exact Nat.le_of_ble_eq_true rfl) (F 13 (by kernel_rfl) 71 rfl)
                    clear F hF hz
                    have hJ1 := hJ
                    obtain ⟨⟨⟨c0, c1, c2, c3, _⟩, _, _⟩, ⟨d0, d1, d2, d3, _⟩, _⟩ := hJ1
                    go_simp
                    exact hK (.bool false) _ hJ (Below.refl _ _) rfl
                  refine Inv.from_cons _ _ _ _ rfl (fun _ a w hJ hF F K hK => ?_) ?_
                  · have hz : a.tmps.size = 126 := hF.size
                    have e65 : a.tmps[65]? = some (.bool false) := Inv2.some_slot (by rw [hz]; exact Nat.le_of_ble_eq_true rfl) (F 7 (by kernel_rfl) 65 rfl)
                    have e72 : a.tmps[72]? = some (.bool false) := Inv2.some_slot (by rw [hz]; exact Nat.le_of_ble_eq_true rfl) (F 14 (by kernel_rfl) 72 rfl)
                    clear F hF hz
                    have hJ1 := hJ
                    obtain ⟨⟨⟨c0, c1, c2, c3, _⟩, _, _⟩, ⟨d0, d1, d2, d3, _⟩, _⟩ := hJ1
                    go_simp
                    exact hK (.bool false) _ hJ (Below.refl _ _) rfl
                  refine Inv.from_cons _ _ _ _ rfl (fun _ a w hJ hF F K hK => ?_) ?_
                  · have hz : a.tmps.size = 126 := hF.size
                    have e65 : a.tmps[65]? = some (.bool false) := Inv2.some_slot (by rw [hz]; exact Nat.le_of_ble_eq_true rfl) (F 7 (by kernel_rfl) 65 rfl)
                    have e73 : a.tmps[73]? = some (.bool false) := Inv2.some_slot (by rw [hz]; exact Nat.le_of_ble_eq_true rfl) (F 15 (by kernel_rfl) 73 rfl)
                    clear F hF hz
                    have hJ1 := hJ
                    obtain ⟨⟨⟨c0, c1, c2, c3, _⟩, _, _⟩, ⟨d0, d1, d2, d3, _⟩, _⟩ := hJ1
                    go_simp
                    exact hK (.bool false) _ hJ (Below.refl _ _) rfl
                  refine Inv.from_cons _ _ _ _ rfl (fun _ a w hJ hF F K hK => ?_) ?_
                  · have hz : a.tmps.size = 126 := hF.size
                    have e3 : a.tmps[3]? = some (.string other) := Inv2.some_slot (by rw [hz]; exact Nat.le_of_ble_eq_true rfl) (hF.slot 3 (by kernel_rfl))
                    have e74 : a.tmps[74]? = some (.bool false) := Inv2.some_slot (by rw [hz]; exact Nat.le_of_ble_eq_true rfl) (F 16 (by kernel_rfl) 74 rfl)
                    clear F hF hz
                    have hJ1 := hJ
                    obtain ⟨⟨⟨c0, c1, c2, c3, _⟩, _, _⟩, ⟨d0, d1, d2, d3, _⟩, _⟩ := hJ1
                    go_simp
                    exact hK (.string other) _ hJ (Below.refl _ _) rfl
                  refine Inv.from_cons _ _ _ _ rfl (fun _ a w hJ hF F K hK => ?_) ?_
                  · have hz : a.tmps.size = 126 := hF.size
                    have e1 : a.tmps[1]? = some (.string key) := Inv2.some_slot (by rw [hz]; exact Nat.le_of_ble_eq_true rfl) (hF.slot 1 (by kernel_rfl))
                    have e74 : a.tmps[74]? = some (.bool false) := Inv2.some_slot (by rw [hz]; exact Nat.le_of_ble_eq_true rfl) (F 16 (by kernel_rfl) 74 rfl)
                    clear F hF hz
                    have hJ1 := hJ
                    obtain ⟨⟨⟨c0, c1, c2, c3, _⟩, _, _⟩, ⟨d0, d1, d2, d3, _⟩, _⟩ := hJ1
                    go_simp
                    exact hK (.string key) _ hJ (Below.refl _ _) rfl
                  refine Inv.from_cons _ _ _ _ rfl (fun _ a w hJ hF F K hK => ?_) ?_
                  · have hz : a.tmps.size = 126 := hF.size
                    have e74 : a.tmps[74]? = some (.bool false) := Inv2.some_slot (by rw [hz]; exact Nat.le_of_ble_eq_true rfl) (F 16 (by kernel_rfl) 74 rfl)
                    have e75 : a.tmps[75]? = some (.string other) := Inv2.some_slot (by rw [hz]; exact Nat.le_of_ble_eq_true rfl) (F 17 (by kernel_rfl) 75 rfl)
                    have e76 : a.tmps[76]? = some (.string key) := Inv2.some_slot (by rw [hz]; exact Nat.le_of_ble_eq_true rfl) (F 18 (by kernel_rfl) 76 rfl)
                    clear F hF hz
                    have hJ1 := hJ
                    obtain ⟨⟨⟨c0, c1, c2, c3, _⟩, _, _⟩, ⟨d0, d1, d2, d3, _⟩, _⟩ := hJ1
                    have heqb := HEB.out
                    go_simp
                    exact hK (.bool true) _ hJ (Below.refl _ _) rfl
                  refine Inv.from_cons _ _ _ _ rfl (fun _ a w hJ hF F K hK => ?_) ?_
                  · have hz : a.tmps.size = 126 := hF.size
                    have e74 : a.tmps[74]? = some (.bool false) := Inv2.some_slot (by rw [hz]; exact Nat.le_of_ble_eq_true rfl) (F 16 (by kernel_rfl) 74 rfl)
                    have e77 : a.tmps[77]? = some (.bool true) := Inv2.some_slot (by rw [hz]; exact Nat.le_of_ble_eq_true rfl) (F 19 (by kernel_rfl) 77 rfl)
                    clear F hF hz
                    have hJ1 := hJ
                    obtain ⟨⟨⟨c0, c1, c2, c3, _⟩, _, _⟩, ⟨d0, d1, d2, d3, _⟩, _⟩ := hJ1
                    go_simp
                    exact hK (.bool true) _ hJ (Below.refl _ _) rfl
                  refine Inv.from_cons _ _ _ _ rfl (fun _ a w hJ hF F K hK => ?_) ?_
                  · have hz : a.tmps.size = 126 := hF.size
                    have e4 : a.tmps[4]? = some (.pointer (some ⟨W.heap.size, 0, none⟩)) := Inv2.some_slot (by rw [hz]; exact Nat.le_of_ble_eq_true rfl) (hF.slot 4 (by kernel_rfl))
                    have e78 : a.tmps[78]? = some (.bool true) := Inv2.some_slot (by rw [hz]; exact Nat.le_of_ble_eq_true rfl) (F 20 (by kernel_rfl) 78 rfl)
                    clear F hF hz
                    have hJ1 := hJ
                    obtain ⟨⟨⟨c0, c1, c2, c3, _⟩, _, _⟩, ⟨d0, d1, d2, d3, _⟩, _⟩ := hJ1
                    go_simp
                    exact hK (nv n h) _ hJ (Below.refl _ _) rfl
                  refine Inv.from_cons _ _ _ _ rfl (fun _ a w hJ hF F K hK => ?_) ?_
                  · have hz : a.tmps.size = 126 := hF.size
                    have e3 : a.tmps[3]? = some (.string other) := Inv2.some_slot (by rw [hz]; exact Nat.le_of_ble_eq_true rfl) (hF.slot 3 (by kernel_rfl))
                    have e78 : a.tmps[78]? = some (.bool true) := Inv2.some_slot (by rw [hz]; exact Nat.le_of_ble_eq_true rfl) (F 20 (by kernel_rfl) 78 rfl)
                    clear F hF hz
                    have hJ1 := hJ
                    obtain ⟨⟨⟨c0, c1, c2, c3, _⟩, _, _⟩, ⟨d0, d1, d2, d3, _⟩, _⟩ := hJ1
                    go_simp
                    exact hK (.string other) _ hJ (Below.refl _ _) rfl
                  refine Inv.from_cons _ _ _ _ rfl (fun _ a w hJ hF F K hK => ?_) ?_
                  · have hz : a.tmps.size = 126 := hF.size
                    have e78 : a.tmps[78]? = some (.bool true) := Inv2.some_slot (by rw [hz]; exact Nat.le_of_ble_eq_true rfl) (F 20 (by kernel_rfl) 78 rfl)
                    have e79 : a.tmps[79]? = some (nv n h) := Inv2.some_slot (by rw [hz]; exact Nat.le_of_ble_eq_true rfl) (F 21 (by kernel_rfl) 79 rfl)
                    have e80 : a.tmps[80]? = some (.string other) := Inv2.some_slot (by rw [hz]; exact Nat.le_of_ble_eq_true rfl) (F 22 (by kernel_rfl) 80 rfl)
                    clear F hF hz
                    have hJ1 := hJ
                    obtain ⟨⟨⟨c0, c1, c2, c3, _⟩, _, _⟩, ⟨d0, d1, d2, d3, _⟩, _⟩ := hJ1
                    have hh := got_any w l n h other HNL.out HLF0.out (by omega) hJ.1.2.1 HOZ.out
                    go_simp
                    (with_reducible refine hh.mono ?_)
                    rintro e w' ⟨rfl, hb⟩
                    go_simp
                    exact hK _ _ ⟨hJ.1.below hb, hJ.2.1.below hb, hJ.2.2.below hb⟩ hb rfl
                  refine Inv.from_cons _ _ _ _ rfl (fun _ a w hJ hF F K hK => ?_) ?_
                  · have hz : a.tmps.size = 126 := hF.size
                    have e9 : a.tmps[9]? = some (.pointer (some ⟨g5, 0, none⟩)) := Inv2.some_slot (by rw [hz]; exact Nat.le_of_ble_eq_true rfl) (hF.slot 9 (by kernel_rfl))
                    have e78 : a.tmps[78]? = some (.bool true) := Inv2.some_slot (by rw [hz]; exact Nat.le_of_ble_eq_true rfl) (F 20 (by kernel_rfl) 78 rfl)
                    clear F hF hz
                    have hJ1 := hJ
                    obtain ⟨⟨⟨c0, c1, c2, c3, _⟩, _, _⟩, ⟨d0, d1, d2, d3, _⟩, _⟩ := hJ1
                    go_simp
                    exact hK (nv m hm) _ hJ (Below.refl _ _) rfl
                  refine Inv.from_cons _ _ _ _ rfl (fun _ a w hJ hF F K hK => ?_) ?_
                  · have hz : a.tmps.size = 126 := hF.size
                    have e3 : a.tmps[3]? = some (.string other) := Inv2.some_slot (by rw [hz]; exact Nat.le_of_ble_eq_true rfl) (hF.slot 3 (by kernel_rfl))
                    have e78 : a.tmps[78]? = some (.bool true) := Inv2.some_slot (by rw [hz]; exact Nat.le_of_ble_eq_true rfl) (F 20 (by kernel_rfl) 78 rfl)
                    clear F hF hz
                    have hJ1 := hJ
                    obtain ⟨⟨⟨c0, c1, c2, c3, _⟩, _, _⟩, ⟨d0, d1, d2, d3, _⟩, _⟩ := hJ1
                    go_simp
                    exact hK (.string other) _ hJ (Below.refl _ _) rfl
                  refine Inv.from_cons _ _ _ _ rfl (fun _ a w hJ hF F K hK => ?_) ?_
                  · have hz : a.tmps.size = 126 := hF.size
                    have e78 : a.tmps[78]? = some (.bool true) := Inv2.some_slot (by rw [hz]; exact Nat.le_of_ble_eq_true rfl) (F 20 (by kernel_rfl) 78 rfl)
                    have e81 : a.tmps[81]? = some (.string (gt l other)) := Inv2.some_slot (by rw [hz]; exact Nat.le_of_ble_eq_true rfl) (F 23 (by kernel_rfl) 81 rfl)
                    have e82 : a.tmps[82]? = some (nv m hm) := Inv2.some_slot (by rw [hz]; exact Nat.le_of_ble_eq_true rfl) (F 24 (by kernel_rfl) 82 rfl)
                    have e83 : a.tmps[83]? = some (.string other) := Inv2.some_slot (by rw [hz]; exact Nat.le_of_ble_eq_true rfl) (F 25 (by kernel_rfl) 83 rfl)
                    clear F hF hz
                    have hJ1 := hJ
                    obtain ⟨⟨⟨c0, c1, c2, c3, _⟩, _, _⟩, ⟨d0, d1, d2, d3, _⟩, _⟩ := hJ1
                    have hh := got_any w (ins key value l) m hm other HQM.out HLF1.out (by omega) hJ.2.2 HOZ.out
                    rw [gt_ins_ne value HNE.out] at hh
                    go_simp
                    (with_reducible refine hh.mono ?_)
                    rintro e w' ⟨rfl, hb⟩
                    go_simp
                    exact hK _ _ ⟨hJ.1.below hb, hJ.2.1.below hb, hJ.2.2.below hb⟩ hb rfl
                  refine Inv.from_cons _ _ _ _ rfl (fun _ a w hJ hF F K hK => ?_) ?_
                  · have hz : a.tmps.size = 126 := hF.size
                    have e78 : a.tmps[78]? = some (.bool true) := Inv2.some_slot (by rw [hz]; exact Nat.le_of_ble_eq_true rfl) (F 20 (by kernel_rfl) 78 rfl)
                    have e81 : a.tmps[81]? = some (.string (gt l other)) := Inv2.some_slot (by rw [hz]; exact Nat.le_of_ble_eq_true rfl) (F 23 (by kernel_rfl) 81 rfl)
                    have e84 : a.tmps[84]? = some (.string (gt l other)) := Inv2.some_slot (by rw [hz]; exact Nat.le_of_ble_eq_true rfl) (F 26 (by kernel_rfl) 84 rfl)
                    clear F hF hz
                    have hJ1 := hJ
                    obtain ⟨⟨⟨c0, c1, c2, c3, _⟩, _, _⟩, ⟨d0, d1, d2, d3, _⟩, _⟩ := hJ1
                    go_simp
                    exact hK (.bool false) _ hJ (Below.refl _ _) rfl
                  refine Inv.from_cons _ _ _ _ rfl (fun _ a w hJ hF F K hK => ?_) ?_
                  · have hz : a.tmps.size = 126 := hF.size
                    have e74 : a.tmps[74]? = some (.bool false) := Inv2.some_slot (by rw [hz]; exact Nat.le_of_ble_eq_true rfl) (F 16 (by kernel_rfl) 74 rfl)
                    have e78 : a.tmps[78]? = some (.bool true) := Inv2.some_slot (by rw [hz]; exact Nat.le_of_ble_eq_true rfl) (F 20 (by kernel_rfl) 78 rfl)
                    have e85 : a.tmps[85]? = some (.bool false) := Inv2.some_slot (by rw [hz]; exact Nat.le_of_ble_eq_true rfl) (F 27 (by kernel_rfl) 85 rfl)
                    clear F hF hz
                    have hJ1 := hJ
                    obtain ⟨⟨⟨c0, c1, c2, c3, _⟩, _, _⟩, ⟨d0, d1, d2, d3, _⟩, _⟩ := hJ1
                    go_simp
                    exact hK (.bool false) _ hJ (Below.refl _ _) rfl
                  refine Inv.from_cons _ _ _ _ rfl (fun _ a w hJ hF F K hK => ?_) ?_
                  · have hz : a.tmps.size = 126 := hF.size
                    have e74 : a.tmps[74]? = some (.bool false) := Inv2.some_slot (by rw [hz]; exact Nat.le_of_ble_eq_true rfl) (F 16 (by kernel_rfl) 74 rfl)
                    have e86 : a.tmps[86]? = some (.bool false) := Inv2.some_slot (by rw [hz]; exact Nat.le_of_ble_eq_true rfl) (F 28 (by kernel_rfl) 86 rfl)
                    clear F hF hz
                    have hJ1 := hJ
                    obtain ⟨⟨⟨c0, c1, c2, c3, _⟩, _, _⟩, ⟨d0, d1, d2, d3, _⟩, _⟩ := hJ1
                    go_simp
                    exact hK (.bool false) _ hJ (Below.refl _ _) rfl
                  exact Inv.from_end _ _ _ _ (by decide +kernel)
                · intro o ho; exact absurd ho (by simp)
                · intro _ a w hJ hF F
                  obtain ⟨f, hf⟩ : ∃ f : Nat → Value, ∀ i, a.tmps.getD i undef = f i := ⟨_, fun _ => rfl⟩
                  have g1 : f 1 = (.string key) := (hf 1).symm.trans (hF.slot 1 (by kernel_rfl))
                  have g2 : f 2 = (.string value) := (hf 2).symm.trans (hF.slot 2 (by kernel_rfl))
                  have g3 : f 3 = (.string other) := (hf 3).symm.trans (hF.slot 3 (by kernel_rfl))
                  have g4 : f 4 = (.pointer (some ⟨W.heap.size, 0, none⟩)) := (hf 4).symm.trans (hF.slot 4 (by kernel_rfl))
                  have g9 : f 9 = (.pointer (some ⟨g5, 0, none⟩)) := (hf 9).symm.trans (hF.slot 9 (by kernel_rfl))
                  have g10 : f 10 = (.int .i64 (am : Int)) := (hf 10).symm.trans (hF.slot 10 (by kernel_rfl))
                  have g11 : f 11 = (.bool true) := (hf 11).symm.trans (hF.slot 11 (by kernel_rfl))
                  have g58 : f 58 = (nv m hm) := (hf 58).symm.trans (F 0 58 rfl)
                  have g59 : f 59 = (.int .i64 0) := (hf 59).symm.trans (F 1 59 rfl)
                  have g60 : f 60 = (.bool false) := (hf 60).symm.trans (F 2 60 rfl)
                  have g61 : f 61 = (.bool false) := (hf 61).symm.trans (F 3 61 rfl)
                  have g62 : f 62 = (.bool true) := (hf 62).symm.trans (F 4 62 rfl)
                  have g63 : f 63 = (.bool false) := (hf 63).symm.trans (F 5 63 rfl)
                  have g64 : f 64 = (.bool false) := (hf 64).symm.trans (F 6 64 rfl)
                  have g65 : f 65 = (.bool false) := (hf 65).symm.trans (F 7 65 rfl)
                  have g66 : f 66 = (.pointer (some ⟨g5, 2, none⟩)) := (hf 66).symm.trans (F 8 66 rfl)
                  have g67 : f 67 = (.slice (some ad) m.vals.length hm.vc) := (hf 67).symm.trans (F 9 67 rfl)
                  have g68 : f 68 = (.int .i64 (am : Int)) := (hf 68).symm.trans (F 10 68 rfl)
                  have g69 : f 69 = (.pointer (some (ad.add am))) := (hf 69).symm.trans (F 11 69 rfl)
                  have g70 : f 70 = (.string value) := (hf 70).symm.trans (F 12 70 rfl)
                  have g71 : f 71 = (.string value) := (hf 71).symm.trans (F 13 71 rfl)
                  have g72 : f 72 = (.bool false) := (hf 72).symm.trans (F 14 72 rfl)
                  have g73 : f 73 = (.bool false) := (hf 73).symm.trans (F 15 73 rfl)
                  have g74 : f 74 = (.bool false) := (hf 74).symm.trans (F 16 74 rfl)
                  have g75 : f 75 = (.string other) := (hf 75).symm.trans (F 17 75 rfl)
                  have g76 : f 76 = (.string key) := (hf 76).symm.trans (F 18 76 rfl)
                  have g77 : f 77 = (.bool true) := (hf 77).symm.trans (F 19 77 rfl)
                  have g78 : f 78 = (.bool true) := (hf 78).symm.trans (F 20 78 rfl)
                  have g79 : f 79 = (nv n h) := (hf 79).symm.trans (F 21 79 rfl)
                  have g80 : f 80 = (.string other) := (hf 80).symm.trans (F 22 80 rfl)
                  have g81 : f 81 = (.string (gt l other)) := (hf 81).symm.trans (F 23 81 rfl)
                  have g82 : f 82 = (nv m hm) := (hf 82).symm.trans (F 24 82 rfl)
                  have g83 : f 83 = (.string other) := (hf 83).symm.trans (F 25 83 rfl)
                  have g84 : f 84 = (.string (gt l other)) := (hf 84).symm.trans (F 26 84 rfl)
                  have g85 : f 85 = (.bool false) := (hf 85).symm.trans (F 27 85 rfl)
                  have g86 : f 86 = (.bool false) := (hf 86).symm.trans (F 28 86 rfl)
                  have g87 : f 87 = (.bool false) := (hf 87).symm.trans (F 29 87 rfl)
                  have ha := Frames.frame (show a.tmps.size = 126 from hF.size) hF.defers hf (l := [f 0, f 1, f 2, f 3, f 4, f 5, f 6, f 7, f 8, f 9, f 10, f 11, f 12, f 13, f 14, f 15, f 16, f 17, f 18, f 19, f 20, f 21, f 22, f 23, f 24, f 25, f 26, f 27, f 28, f 29, f 30, f 31, f 32, f 33, f 34, f 35, f 36, f 37, f 38, f 39, f 40, f 41, f 42, f 43, f 44, f 45, f 46, f 47, f 48, f 49, f 50, f 51, f 52, f 53, f 54, f 55, f 56, f 57, f 58, f 59, f 60, f 61, f 62, f 63, f 64, f 65, f 66, f 67, f 68, f 69, f 70, f 71, f 72, f 73, f 74, f 75, f 76, f 77, f 78, f 79, f 80, f 81, f 82, f 83, f 84, f 85, f 86, f 87, f 88, f 89, f 90, f 91, f 92, f 93, f 94, f 95, f 96, f 97, f 98, f 99, f 100, f 101, f 102, f 103, f 104, f 105, f 106, f 107, f 108, f 109, f 110, f 111, f 112, f 113, f 114, f 115, f 116, f 117, f 118, f 119, f 120, f 121, f 122, f 123, f 124, f 125]) rfl
                  simp only [g1, g2, g3, g4, g9, g10, g11, g58, g59, g60, g61, g62, g63, g64, g65, g66, g67, g68, g69, g70, g71, g72, g73, g74, g75, g76, g77, g78, g79, g80, g81, g82, g83, g84, g85, g86, g87] at ha
                  clear F hF hf g1 g2 g3 g4 g9 g10 g11 g58 g59 g60 g61 g62 g63 g64 g65 g66 g67 g68 g69 g70 g71 g72 g73 g74 g75 g76 g77 g78 g79 g80 g81 g82 g83 g84 g85 g86 g87
                  subst ha
                  have hJ1 := hJ
                  obtain ⟨⟨⟨c0, c1, c2, c3, _⟩, _, _⟩, ⟨d0, d1, d2, d3, _⟩, _⟩ := hJ1
                  have hdr := drop_lf w (ins key value l) m hm key HQM.out HLF1.out (by omega) hJ.2.2
                  go_wp2_with fail
                  clear c0 c1 c2 c3 d0 d1 d2 d3
                  refine hdr.mono ?_
                  rintro e v7 ⟨v, rfl, hv, b7⟩
                  clear hdr
                  obtain ⟨s7, bx7, lm7⟩ : Begun W n h v7 ∧ Bx v7 g5 m hm ∧ Lay v7 m hm := ⟨hJ.1.below b7, hJ.2.1.below b7, hJ.2.2.below b7⟩
                  clear hJ b7
                  obtain ⟨d, hd, rfl, qd, ld⟩ := hv
                  have HQD := Lib.hid qd
                  have HLF2 := Lib.hid (HLF1.out.del key)
                  have HSD := Lib.hid (show Small d by rw [qd]; exact HLF2.out.small (by omega))
                  have hud : Up d.keys := by rw [qd]; exact HLF2.out.up
                  have HOD := Lib.hid (show Ok d by rw [qd]; exact ok_lfn (sz_del (sz_ins HSZ.out HKZ.out.1 HKZ.out.2) key) HLF2.out.up)
                  have hhd : has d.keys key = false := by rw [qd]; exact has_del key _
                  clear qd
                  have b8 := box_below v7 d hd
                  have bxd := bx_new v7 d hd
                  have ld8 := ld.below b8
                  have s8 := s7.below b8
                  have bx8 := bx7.below b8
                  have lm8 := lm7.below b8
                  obtain ⟨v8, hv8⟩ : ∃ v, v = box v7 d hd := ⟨_, rfl⟩
                  rw [← hv8] at bxd ld8 s8 bx8 lm8
                  unfold box at hv8
                  have HV8 := Lib.hid hv8
                  clear hv8 b8 s7 bx7 lm7 ld
                  have hfd := find_any v8 d hd key ld8 hud HSD.out.k
                  rw [hhd] at hfd
                  clear hud hhd
                  generalize at_ d key = adx at *
                  skip
                  go_wp2_with fail
                  rw [← HV8.out]
                  clear HV8
                  generalize v7.heap.size = g7 at *
                  refine hfd.mono ?_
                  rintro e v9 ⟨rfl, b9⟩
                  clear hfd
                  have s9 := s8.below b9
                  have bx9 := bx8.below b9
                  have lm9 := lm8.below b9
                  have bxd9 := bxd.below b9
                  have ld9 := ld8.below b9
                  clear s8 bx8 lm8 bxd ld8 b9
                  go_wp2_with fail
                  have hJ0 : (fun w' : World => Begun W n h w' ∧ Bx w' g5 m hm ∧ Lay w' m hm ∧ Bx w' g7 d hd ∧ Lay w' d hd) (World.drew v9) := ⟨s9.below (Below.refl _ _).drew, bx9.below (Below.refl _ _).drew, lm9.below (Below.refl _ _).drew, bxd9.below (Below.refl _ _).drew, ld9.below (Below.refl _ _).drew⟩
                  clear s9 bx9 lm9 bxd9 ld9
                  refine wp_region_any (by kernel_rfl) ?_
                  change wpAny _ _ _ _ _ _ _ (World.drew _)
                  refine Inv.inv_any (fun (i : Nat) (v : Value) (w : World) => match i with | 0 => v = nv d hd | 1 => v = .int .i64 0 | 2 => v = .bool true | 3 => v = .bool true | 4 => v = .bool false | 5 => v = .bool true | 6 => v = .bool true | 7 => v = .bool true | 8 => v = .string other | 9 => v = .string key | 10 => v = .bool false | 11 => v = .bool false | 12 => v = nv d hd | 13 => v = .string other | 14 => v = .string (gt l other) | 15 => v = nv n h | 16 => v = .string other | 17 => v = .string (gt l other) | 18 => v = .bool true | 19 => v = .bool true | 20 => v = .bool true | 21 => v = .bool true | 22 => v = nv m hm | 23 => v = .string key | 24 => v = .string value | 25 => Lv (ins key value l) v w | 26 => v = nv m hm | 27 => v = .bool true | 28 => v = .bool true | _ => True) (fun w' : World => Begun W n h w' ∧ Bx w' g5 m hm ∧ Lay w' m hm ∧ Bx w' g7 d hd ∧ Lay w' d hd) _ 29 126 rfl rfl rfl (by kernel_rfl) (by kernel_rfl) hJ0 ?_ ?_ ?_ ?_
                  · intro j v w w' h hb
                    match j, h with
                    | 0, h => exact h
                    | 1, h => exact h
                    | 2, h => exact h
                    | 3, h => exact h
                    | 4, h => exact h
                    | 5, h => exact h
                    | 6, h => exact h
                    | 7, h => exact h
                    | 8, h => exact h
                    | 9, h => exact h
                    | 10, h => exact h
                    | 11, h => exact h
                    | 12, h => exact h
                    | 13, h => exact h
                    | 14, h => exact h
                    | 15, h => exact h
                    | 16, h => exact h
                    | 17, h => exact h
                    | 18, h => exact h
                    | 19, h => exact h
                    | 20, h => exact h
                    | 21, h => exact h
                    | 22, h => exact h
                    | 23, h => exact h
                    | 24, h => exact h
                    | 25, h => exact Lv.below h hb
                    | 26, h => exact h
                    | 27, h => exact h
                    | 28, h => exact h
                    | 29, _ => exact trivial
                    | (_ + 30), _ => exact trivial
                  · skip
                    refine Inv.from_cons _ _ _ _ rfl (fun _ a w hJ hF F K hK => ?_) ?_
                    · have hz : a.tmps.size = 126 := hF.size
                      have e12 : a.tmps[12]? = some (.pointer (some ⟨g7, 0, none⟩)) := Inv2.some_slot (by rw [hz]; exact Nat.le_of_ble_eq_true rfl) (hF.slot 12 (by kernel_rfl))
                      clear F hF hz
                      have hJ1 := hJ
                      obtain ⟨⟨⟨c0, c1, c2, c3, _⟩, _, _⟩, ⟨d0, d1, d2, d3, _⟩, _, ⟨p0, p1, p2, p3, _⟩, _⟩ := hJ1
                      go_simp
                      exact hK (nv d hd) _ hJ (Below.refl _ _) rfl
                    refine Inv.from_cons _ _ _ _ rfl (fun _ a w hJ hF F K hK => ?_) ?_
                    · have hz : a.tmps.size = 126 := hF.size
                      have e97 : a.tmps[97]? = some (nv d hd) := Inv2.some_slot (by rw [hz]; exact Nat.le_of_ble_eq_true rfl) (F 0 (by kernel_rfl) 97 rfl)
                      clear F hF hz
                      have hJ1 := hJ
                      obtain ⟨⟨⟨c0, c1, c2, c3, _⟩, _, _⟩, ⟨d0, d1, d2, d3, _⟩, _, ⟨p0, p1, p2, p3, _⟩, _⟩ := hJ1
                      have hh := check_any w d hd hJ.2.2.2.2 HSD.out 0 (.inr (.inr ⟨HOD.out.1, HOD.out.2, rfl⟩))
                      go_simp
                      (with_reducible refine hh.mono ?_)
                      rintro e w' ⟨rfl, hb⟩
                      go_simp
                      exact hK _ _ ⟨hJ.1.below hb, hJ.2.1.below hb, hJ.2.2.1.below hb, hJ.2.2.2.1.below hb, hJ.2.2.2.2.below hb⟩ hb rfl
                    refine Inv.from_cons _ _ _ _ rfl (fun _ a w hJ hF F K hK => ?_) ?_
                    · have hz : a.tmps.size = 126 := hF.size
                      have e98 : a.tmps[98]? = some (.int .i64 0) := Inv2.some_slot (by rw [hz]; exact Nat.le_of_ble_eq_true rfl) (F 1 (by kernel_rfl) 98 rfl)
                      clear F hF hz
                      have hJ1 := hJ
                      obtain ⟨⟨⟨c0, c1, c2, c3, _⟩, _, _⟩, ⟨d0, d1, d2, d3, _⟩, _, ⟨p0, p1, p2, p3, _⟩, _⟩ := hJ1
                      go_simp
                      exact hK (.bool true) _ hJ (Below.refl _ _) rfl
                    refine Inv.from_cons _ _ _ _ rfl (fun _ a w hJ hF F K hK => ?_) ?_
                    · have hz : a.tmps.size = 126 := hF.size
                      have e98 : a.tmps[98]? = some (.int .i64 0) := Inv2.some_slot (by rw [hz]; exact Nat.le_of_ble_eq_true rfl) (F 1 (by kernel_rfl) 98 rfl)
                      have e99 : a.tmps[99]? = some (.bool true) := Inv2.some_slot (by rw [hz]; exact Nat.le_of_ble_eq_true rfl) (F 2 (by kernel_rfl) 99 rfl)
                      clear F hF hz
                      have hJ1 := hJ
                      obtain ⟨⟨⟨c0, c1, c2, c3, _⟩, _, _⟩, ⟨d0, d1, d2, d3, _⟩, _, ⟨p0, p1, p2, p3, _⟩, _⟩ := hJ1
                      go_simp
                      exact hK (.bool true) _ hJ (Below.refl _ _) rfl
                    refine Inv.from_cons _ _ _ _ rfl (fun _ a w hJ hF F K hK => ?_) ?_
                    · have hz : a.tmps.size = 126 := hF.size
                      have e14 : a.tmps[14]? = some (.bool false) := Inv2.some_slot (by rw [hz]; exact Nat.le_of_ble_eq_true rfl) (hF.slot 14 (by kernel_rfl))
                      have e100 : a.tmps[100]? = some (.bool true) := Inv2.some_slot (by rw [hz]; exact Nat.le_of_ble_eq_true rfl) (F 3 (by kernel_rfl) 100 rfl)
                      clear F hF hz
                      have hJ1 := hJ
                      obtain ⟨⟨⟨c0, c1, c2, c3, _⟩, _, _⟩, ⟨d0, d1, d2, d3, _⟩, _, ⟨p0, p1, p2, p3, _⟩, _⟩ := hJ1
                      go_simp
                      exact hK (.bool false) _ hJ (Below.refl _ _) rfl
                    refine Inv.from_cons _ _ _ _ rfl (fun _ a w hJ hF F K hK => ?_) ?_
                    · have hz : a.tmps.size = 126 := hF.size
                      have e100 : a.tmps[100]? = some (.bool true) := Inv2.some_slot (by rw [hz]; exact Nat.le_of_ble_eq_true rfl) (F 3 (by kernel_rfl) 100 rfl)
                      have e101 : a.tmps[101]? = some (.bool false) := Inv2.some_slot (by rw [hz]; exact Nat.le_of_ble_eq_true rfl) (F 4 (by kernel_rfl) 101 rfl)
                      clear F hF hz
                      have hJ1 := hJ
                      obtain ⟨⟨⟨c0, c1, c2, c3, _⟩, _, _⟩, ⟨d0, d1, d2, d3, _⟩, _, ⟨p0, p1, p2, p3, _⟩, _⟩ := hJ1
                      go_simp
                      exact hK (.bool true) _ hJ (Below.refl _ _) rfl
                    refine Inv.from_cons _ _ _ _ rfl (fun _ a w hJ hF F K hK => ?_) ?_
                    · have hz : a.tmps.size = 126 := hF.size
                      have e100 : a.tmps[100]? = some (.bool true) := Inv2.some_slot (by rw [hz]; exact Nat.le_of_ble_eq_true rfl) (F 3 (by kernel_rfl) 100 rfl)
                      have e102 : a.tmps[102]? = some (.bool true) := Inv2.some_slot (by rw [hz]; exact Nat.le_of_ble_eq_true rfl) (F 5 (by kernel_rfl) 102 rfl)
                      clear F hF hz
                      have hJ1 := hJ
                      obtain ⟨⟨⟨c0, c1, c2, c3, _⟩, _, _⟩, ⟨d0, d1, d2, d3, _⟩, _, ⟨p0, p1, p2, p3, _⟩, _⟩ := hJ1
                      go_simp
                      exact hK (.bool true) _ hJ (Below.refl _ _) rfl
                    refine Inv.from_cons _ _ _ _ rfl (fun _ a w hJ hF F K hK => ?_) ?_
                    · have hz : a.tmps.size = 126 := hF.size
                      have e100 : a.tmps[100]? = some (.bool true) := Inv2.some_slot (by rw [hz]; exact Nat.le_of_ble_eq_true rfl) (F 3 (by kernel_rfl) 100 rfl)
                      have e103 : a.tmps[103]? = some (.bool true) := Inv2.some_slot (by rw [hz]; exact Nat.le_of_ble_eq_true rfl) (F 6 (by kernel_rfl) 103 rfl)
                      clear F hF hz
                      have hJ1 := hJ
                      obtain ⟨⟨⟨c0, c1, c2, c3, _⟩, _, _⟩, ⟨d0, d1, d2, d3, _⟩, _, ⟨p0, p1, p2, p3, _⟩, _⟩ := hJ1
                      go_simp
                      exact hK (.bool true) _ hJ (Below.refl _ _) rfl
                    refine Inv.from_cons _ _ _ _ rfl (fun _ a w hJ hF F K hK => ?_) ?_
                    · have hz : a.tmps.size = 126 := hF.size
                      have e3 : a.tmps[3]? = some (.string other) := Inv2.some_slot (by rw [hz]; exact Nat.le_of_ble_eq_true rfl) (hF.slot 3 (by kernel_rfl))
                      have e104 : a.tmps[104]? = some (.bool true) := Inv2.some_slot (by rw [hz]; exact Nat.le_of_ble_eq_true rfl) (F 7 (by kernel_rfl) 104 rfl)
                      clear F hF hz
                      have hJ1 := hJ
                      obtain ⟨⟨⟨c0, c1, c2, c3, _⟩, _, _⟩, ⟨d0, d1, d2, d3, _⟩, _, ⟨p0, p1, p2, p3, _⟩, _⟩ := hJ1
                      go_simp
                      exact hK (.string other) _ hJ (Below.refl _ _) rfl
                    refine Inv.from_cons _ _ _ _ rfl (fun _ a w hJ hF F K hK => ?_) ?_
                    · have hz : a.tmps.size = 126 := hF.size
                      have e1 : a.tmps[1]? = some (.string key) := Inv2.some_slot (by rw [hz]; exact Nat.le_of_ble_eq_true rfl) (hF.slot 1 (by kernel_rfl))
                      have e104 : a.tmps[104]? = some (.bool true) := Inv2.some_slot (by rw [hz]; exact Nat.le_of_ble_eq_true rfl) (F 7 (by kernel_rfl) 104 rfl)
                      clear F hF hz
                      have hJ1 := hJ
                      obtain ⟨⟨⟨c0, c1, c2, c3, _⟩, _, _⟩, ⟨d0, d1, d2, d3, _⟩, _, ⟨p0, p1, p2, p3, _⟩, _⟩ := hJ1
                      go_simp
                      exact hK (.string key) _ hJ (Below.refl _ _) rfl
                    refine Inv.from_cons _ _ _ _ rfl (fun _ a w hJ hF F K hK => ?_) ?_
                    · have hz : a.tmps.size = 126 := hF.size
                      have e104 : a.tmps[104]? = some (.bool true) := Inv2.some_slot (by rw [hz]; exact Nat.le_of_ble_eq_true rfl) (F 7 (by kernel_rfl) 104 rfl)
                      have e105 : a.tmps[105]? = some (.string other) := Inv2.some_slot (by rw [hz]; exact Nat.le_of_ble_eq_true rfl) (F 8 (by kernel_rfl) 105 rfl)
                      have e106 : a.tmps[106]? = some (.string key) := Inv2.some_slot (by rw [hz]; exact Nat.le_of_ble_eq_true rfl) (F 9 (by kernel_rfl) 106 rfl)
                      clear F hF hz
                      have hJ1 := hJ
                      obtain ⟨⟨⟨c0, c1, c2, c3, _⟩, _, _⟩, ⟨d0, d1, d2, d3, _⟩, _, ⟨p0, p1, p2, p3, _⟩, _⟩ := hJ1
                      have heqb := HEB.out
                      go_simp
                      exact hK (.bool false) _ hJ (Below.refl _ _) rfl
                    refine Inv.from_cons _ _ _ _ rfl (fun _ a w hJ hF F K hK => ?_) ?_
                    · have hz : a.tmps.size = 126 := hF.size
                      have e104 : a.tmps[104]? = some (.bool true) := Inv2.some_slot (by rw [hz]; exact Nat.le_of_ble_eq_true rfl) (F 7 (by kernel_rfl) 104 rfl)
                      have e107 : a.tmps[107]? = some (.bool false) := Inv2.some_slot (by rw [hz]; exact Nat.le_of_ble_eq_true rfl) (F 10 (by kernel_rfl) 107 rfl)
                      clear F hF hz
                      have hJ1 := hJ
                      obtain ⟨⟨⟨c0, c1, c2, c3, _⟩, _, _⟩, ⟨d0, d1, d2, d3, _⟩, _, ⟨p0, p1, p2, p3, _⟩, _⟩ := hJ1
                      go_simp
                      exact hK (.bool false) _ hJ (Below.refl _ _) rfl
                    refine Inv.from_cons _ _ _ _ rfl (fun _ a w hJ hF F K hK => ?_) ?_
                    · have hz : a.tmps.size = 126 := hF.size
                      have e12 : a.tmps[12]? = some (.pointer (some ⟨g7, 0, none⟩)) := Inv2.some_slot (by rw [hz]; exact Nat.le_of_ble_eq_true rfl) (hF.slot 12 (by kernel_rfl))
                      have e108 : a.tmps[108]? = some (.bool false) := Inv2.some_slot (by rw [hz]; exact Nat.le_of_ble_eq_true rfl) (F 11 (by kernel_rfl) 108 rfl)
                      clear F hF hz
                      have hJ1 := hJ
                      obtain ⟨⟨⟨c0, c1, c2, c3, _⟩, _, _⟩, ⟨d0, d1, d2, d3, _⟩, _, ⟨p0, p1, p2, p3, _⟩, _⟩ := hJ1
                      go_simp
                      exact hK (nv d hd) _ hJ (Below.refl _ _) rfl
                    refine Inv.from_cons _ _ _ _ rfl (fun _ a w hJ hF F K hK => ?_) ?_
                    · have hz : a.tmps.size = 126 := hF.size
                      have e3 : a.tmps[3]? = some (.string other) := Inv2.some_slot (by rw [hz]; exact Nat.le_of_ble_eq_true rfl) (hF.slot 3 (by kernel_rfl))
                      have e108 : a.tmps[108]? = some (.bool false) := Inv2.some_slot (by rw [hz]; exact Nat.le_of_ble_eq_true rfl) (F 11 (by kernel_rfl) 108 rfl)
                      clear F hF hz
                      have hJ1 := hJ
                      obtain ⟨⟨⟨c0, c1, c2, c3, _⟩, _, _⟩, ⟨d0, d1, d2, d3, _⟩, _, ⟨p0, p1, p2, p3, _⟩, _⟩ := hJ1
                      go_simp
                      exact hK (.string other) _ hJ (Below.refl _ _) rfl
                    refine Inv.from_cons _ _ _ _ rfl (fun _ a w hJ hF F K hK => ?_) ?_
                    · have hz : a.tmps.size = 126 := hF.size
                      have e108 : a.tmps[108]? = some (.bool false) := Inv2.some_slot (by rw [hz]; exact Nat.le_of_ble_eq_true rfl) (F 11 (by kernel_rfl) 108 rfl)
                      have e109 : a.tmps[109]? = some (nv d hd) := Inv2.some_slot (by rw [hz]; exact Nat.le_of_ble_eq_true rfl) (F 12 (by kernel_rfl) 109 rfl)
                      have e110 : a.tmps[110]? = some (.string other) := Inv2.some_slot (by rw [hz]; exact Nat.le_of_ble_eq_true rfl) (F 13 (by kernel_rfl) 110 rfl)
                      clear F hF hz
                      have hJ1 := hJ
                      obtain ⟨⟨⟨c0, c1, c2, c3, _⟩, _, _⟩, ⟨d0, d1, d2, d3, _⟩, _, ⟨p0, p1, p2, p3, _⟩, _⟩ := hJ1
                      have hh := got_any w (del key (ins key value l)) d hd other HQD.out HLF2.out (by omega) hJ.2.2.2.2 HOZ.out
                      rw [gt_del_ne HNE.out, gt_ins_ne value HNE.out] at hh
                      go_simp
                      (with_reducible refine hh.mono ?_)
                      rintro e w' ⟨rfl, hb⟩
                      go_simp
                      exact hK _ _ ⟨hJ.1.below hb, hJ.2.1.below hb, hJ.2.2.1.below hb, hJ.2.2.2.1.below hb, hJ.2.2.2.2.below hb⟩ hb rfl
                    refine Inv.from_cons _ _ _ _ rfl (fun _ a w hJ hF F K hK => ?_) ?_
                    · have hz : a.tmps.size = 126 := hF.size
                      have e4 : a.tmps[4]? = some (.pointer (some ⟨W.heap.size, 0, none⟩)) := Inv2.some_slot (by rw [hz]; exact Nat.le_of_ble_eq_true rfl) (hF.slot 4 (by kernel_rfl))
                      have e108 : a.tmps[108]? = some (.bool false) := Inv2.some_slot (by rw [hz]; exact Nat.le_of_ble_eq_true rfl) (F 11 (by kernel_rfl) 108 rfl)
                      clear F hF hz
                      have hJ1 := hJ
                      obtain ⟨⟨⟨c0, c1, c2, c3, _⟩, _, _⟩, ⟨d0, d1, d2, d3, _⟩, _, ⟨p0, p1, p2, p3, _⟩, _⟩ := hJ1
                      go_simp
                      exact hK (nv n h) _ hJ (Below.refl _ _) rfl
                    refine Inv.from_cons _ _ _ _ rfl (fun _ a w hJ hF F K hK => ?_) ?_
                    · have hz : a.tmps.size = 126 := hF.size
                      have e3 : a.tmps[3]? = some (.string other) := Inv2.some_slot (by rw [hz]; exact Nat.le_of_ble_eq_true rfl) (hF.slot 3 (by kernel_rfl))
                      have e108 : a.tmps[108]? = some (.bool false) := Inv2.some_slot (by rw [hz]; exact Nat.le_of_ble_eq_true rfl) (F 11 (by kernel_rfl) 108 rfl)
                      clear F hF hz
                      have hJ1 := hJ
                      obtain ⟨⟨⟨c0, c1, c2, c3, _⟩, _, _⟩, ⟨d0, d1, d2, d3, _⟩, _, ⟨p0, p1, p2, p3, _⟩, _⟩ := hJ1
                      go_simp
                      exact hK (.string other) _ hJ (Below.refl _ _) rfl
                    refine Inv.from_cons _ _ _ _ rfl (fun _ a w hJ hF F K hK => ?_) ?_
                    · have hz : a.tmps.size = 126 := hF.size
                      have e108 : a.tmps[108]? = some (.bool false) := Inv2.some_slot (by rw [hz]; exact Nat.le_of_ble_eq_true rfl) (F 11 (by kernel_rfl) 108 rfl)
                      have e111 : a.tmps[111]? = some (.string (gt l other)) := Inv2.some_slot (by rw [hz]; exact Nat.le_of_ble_eq_true rfl) (F 14 (by kernel_rfl) 111 rfl)
                      have e112 : a.tmps[112]? = some (nv n h) := Inv2.some_slot (by rw [hz]; exact Nat.le_of_ble_eq_true rfl) (F 15 (by kernel_rfl) 112 rfl)
                      have e113 : a.tmps[113]? = some (.string other) := Inv2.some_slot (by rw [hz]; exact Nat.le_of_ble_eq_true rfl) (F 16 (by kernel_rfl) 113 rfl)
                      clear F hF hz
                      have hJ1 := hJ
                      obtain ⟨⟨⟨c0, c1, c2, c3, _⟩, _, _⟩, ⟨d0, d1, d2, d3, _⟩, _, ⟨p0, p1, p2, p3, _⟩, _⟩ := hJ1
                      have hh := got_any w l n h other HNL.out HLF0.out (by omega) hJ.1.2.1 HOZ.out
                      go_simp
                      (with_reducible refine hh.mono ?_)
                      rintro e w' ⟨rfl, hb⟩
                      go_simp
                      exact hK _ _ ⟨hJ.1.below hb, hJ.2.1.below hb, hJ.2.2.1.below hb, hJ.2.2.2.1.below hb, hJ.2.2.2.2.below hb⟩ hb rfl
                    refine Inv.from_cons _ _ _ _ rfl (fun _ a w hJ hF F K hK => ?_) ?_
                    · have hz : a.tmps.size = 126 := hF.size
                      have e108 : a.tmps[108]? = some (.bool false) := Inv2.some_slot (by rw [hz]; exact Nat.le_of_ble_eq_true rfl) (F 11 (by kernel_rfl) 108 rfl)
                      have e111 : a.tmps[111]? = some (.string (gt l other)) := Inv2.some_slot (by rw [hz]; exact Nat.le_of_ble_eq_true rfl) (F 14 (by kernel_rfl) 111 rfl)
                      have e114 : a.tmps[114]? = some (.string (gt l other)) := Inv2.some_slot (by rw [hz]; exact Nat.le_of_ble_eq_true rfl) (F 17 (by kernel_rfl) 114 rfl)
                      clear F hF hz
                      have hJ1 := hJ
                      obtain ⟨⟨⟨c0, c1, c2, c3, _⟩, _, _⟩, ⟨d0, d1, d2, d3, _⟩, _, ⟨p0, p1, p2, p3, _⟩, _⟩ := hJ1
                      go_simp
                      exact hK (.bool true) _ hJ (Below.refl _ _) rfl
                    refine Inv.from_cons _ _ _ _ rfl (fun _ a w hJ hF F K hK => ?_) ?_
                    · have hz : a.tmps.size = 126 := hF.size
                      have e104 : a.tmps[104]? = some (.bool true) := Inv2.some_slot (by rw [hz]; exact Nat.le_of_ble_eq_true rfl) (F 7 (by kernel_rfl) 104 rfl)
                      have e108 : a.tmps[108]? = some (.bool false) := Inv2.some_slot (by rw [hz]; exact Nat.le_of_ble_eq_true rfl) (F 11 (by kernel_rfl) 108 rfl)
                      have e115 : a.tmps[115]? = some (.bool true) := Inv2.some_slot (by rw [hz]; exact Nat.le_of_ble_eq_true rfl) (F 18 (by kernel_rfl) 115 rfl)
                      clear F hF hz
                      have hJ1 := hJ
                      obtain ⟨⟨⟨c0, c1, c2, c3, _⟩, _, _⟩, ⟨d0, d1, d2, d3, _⟩, _, ⟨p0, p1, p2, p3, _⟩, _⟩ := hJ1
                      go_simp
                      exact hK (.bool true) _ hJ (Below.refl _ _) rfl
                    refine Inv.from_cons _ _ _ _ rfl (fun _ a w hJ hF F K hK => ?_) ?_
                    · have hz : a.tmps.size = 126 := hF.size
                      have e104 : a.tmps[104]? = some (.bool true) := Inv2.some_slot (by rw [hz]; exact Nat.le_of_ble_eq_true rfl) (F 7 (by kernel_rfl) 104 rfl)
                      have e116 : a.tmps[116]? = some (.bool true) := Inv2.some_slot (by rw [hz]; exact Nat.le_of_ble_eq_true rfl) (F 19 (by kernel_rfl) 116 rfl)
                      clear F hF hz
                      have hJ1 := hJ
                      obtain ⟨⟨⟨c0, c1, c2, c3, _⟩, _, _⟩, ⟨d0, d1, d2, d3, _⟩, _, ⟨p0, p1, p2, p3, _⟩, _⟩ := hJ1
                      go_simp
                      exact hK (.bool true) _ hJ (Below.refl _ _) rfl
                    refine Inv.from_cons _ _ _ _ rfl (fun _ a w hJ hF F K hK => ?_) ?_
                    · have hz : a.tmps.size = 126 := hF.size
                      have e114 : a.tmps[114]? = some (.string (gt l other)) := Inv2.some_slot (by rw [hz]; exact Nat.le_of_ble_eq_true rfl) (F 17 (by kernel_rfl) 114 rfl)
                      have e117 : a.tmps[117]? = some (.bool true) := Inv2.some_slot (by rw [hz]; exact Nat.le_of_ble_eq_true rfl) (F 20 (by kernel_rfl) 117 rfl)
                      clear F hF hz
                      have hJ1 := hJ
                      obtain ⟨⟨⟨c0, c1, c2, c3, _⟩, _, _⟩, ⟨d0, d1, d2, d3, _⟩, _, ⟨p0, p1, p2, p3, _⟩, _⟩ := hJ1
                      go_simp
                      exact hK (.bool true) _ hJ (Below.refl _ _) rfl
                    refine Inv.from_cons _ _ _ _ rfl (fun _ a w hJ hF F K hK => ?_) ?_
                    · have hz : a.tmps.size = 126 := hF.size
                      have e9 : a.tmps[9]? = some (.pointer (some ⟨g5, 0, none⟩)) := Inv2.some_slot (by rw [hz]; exact Nat.le_of_ble_eq_true rfl) (hF.slot 9 (by kernel_rfl))
                      have e118 : a.tmps[118]? = some (.bool true) := Inv2.some_slot (by rw [hz]; exact Nat.le_of_ble_eq_true rfl) (F 21 (by kernel_rfl) 118 rfl)
                      clear F hF hz
                      have hJ1 := hJ
                      obtain ⟨⟨⟨c0, c1, c2, c3, _⟩, _, _⟩, ⟨d0, d1, d2, d3, _⟩, _, ⟨p0, p1, p2, p3, _⟩, _⟩ := hJ1
                      go_simp
                      exact hK (nv m hm) _ hJ (Below.refl _ _) rfl
                    refine Inv.from_cons _ _ _ _ rfl (fun _ a w hJ hF F K hK => ?_) ?_
                    · have hz : a.tmps.size = 126 := hF.size
                      have e1 : a.tmps[1]? = some (.string key) := Inv2.some_slot (by rw [hz]; exact Nat.le_of_ble_eq_true rfl) (hF.slot 1 (by kernel_rfl))
                      have e118 : a.tmps[118]? = some (.bool true) := Inv2.some_slot (by rw [hz]; exact Nat.le_of_ble_eq_true rfl) (F 21 (by kernel_rfl) 118 rfl)
                      clear F hF hz
                      have hJ1 := hJ
                      obtain ⟨⟨⟨c0, c1, c2, c3, _⟩, _, _⟩, ⟨d0, d1, d2, d3, _⟩, _, ⟨p0, p1, p2, p3, _⟩, _⟩ := hJ1
                      go_simp
                      exact hK (.string key) _ hJ (Below.refl _ _) rfl
                    refine Inv.from_cons _ _ _ _ rfl (fun _ a w hJ hF F K hK => ?_) ?_
                    · have hz : a.tmps.size = 126 := hF.size
                      have e2 : a.tmps[2]? = some (.string value) := Inv2.some_slot (by rw [hz]; exact Nat.le_of_ble_eq_true rfl) (hF.slot 2 (by kernel_rfl))
                      have e118 : a.tmps[118]? = some (.bool true) := Inv2.some_slot (by rw [hz]; exact Nat.le_of_ble_eq_true rfl) (F 21 (by kernel_rfl) 118 rfl)
                      clear F hF hz
                      have hJ1 := hJ
                      obtain ⟨⟨⟨c0, c1, c2, c3, _⟩, _, _⟩, ⟨d0, d1, d2, d3, _⟩, _, ⟨p0, p1, p2, p3, _⟩, _⟩ := hJ1
                      go_simp
                      exact hK (.string value) _ hJ (Below.refl _ _) rfl
                    refine Inv.from_cons _ _ _ _ rfl (fun _ a w hJ hF F K hK => ?_) ?_
                    · have hz : a.tmps.size = 126 := hF.size
                      have e118 : a.tmps[118]? = some (.bool true) := Inv2.some_slot (by rw [hz]; exact Nat.le_of_ble_eq_true rfl) (F 21 (by kernel_rfl) 118 rfl)
                      have e119 : a.tmps[119]? = some (nv m hm) := Inv2.some_slot (by rw [hz]; exact Nat.le_of_ble_eq_true rfl) (F 22 (by kernel_rfl) 119 rfl)
                      have e120 : a.tmps[120]? = some (.string key) := Inv2.some_slot (by rw [hz]; exact Nat.le_of_ble_eq_true rfl) (F 23 (by kernel_rfl) 120 rfl)
                      have e121 : a.tmps[121]? = some (.string value) := Inv2.some_slot (by rw [hz]; exact Nat.le_of_ble_eq_true rfl) (F 24 (by kernel_rfl) 121 rfl)
                      clear F hF hz
                      have hJ1 := hJ
                      obtain ⟨⟨⟨c0, c1, c2, c3, _⟩, _, _⟩, ⟨d0, d1, d2, d3, _⟩, _, ⟨p0, p1, p2, p3, _⟩, _⟩ := hJ1
                      have hh := put_lf w (ins key value l) m hm key value HQM.out HLF1.out (by omega) hJ.2.2.1
                      rw [ins_idem] at hh
                      go_simp
                      (with_reducible refine hh.mono ?_)
                      rintro e w' ⟨v, rfl, hv, hb⟩
                      go_simp
                      exact hK _ _ ⟨hJ.1.below hb, hJ.2.1.below hb, hJ.2.2.1.below hb, hJ.2.2.2.1.below hb, hJ.2.2.2.2.below hb⟩ hb hv
                    refine Inv.from_cons _ _ _ _ rfl (fun _ a w hJ hF F K hK => ?_) ?_
                    · have hz : a.tmps.size = 126 := hF.size
                      have e9 : a.tmps[9]? = some (.pointer (some ⟨g5, 0, none⟩)) := Inv2.some_slot (by rw [hz]; exact Nat.le_of_ble_eq_true rfl) (hF.slot 9 (by kernel_rfl))
                      have e118 : a.tmps[118]? = some (.bool true) := Inv2.some_slot (by rw [hz]; exact Nat.le_of_ble_eq_true rfl) (F 21 (by kernel_rfl) 118 rfl)
                      clear F hF hz
                      have hJ1 := hJ
                      obtain ⟨⟨⟨c0, c1, c2, c3, _⟩, _, _⟩, ⟨d0, d1, d2, d3, _⟩, _, ⟨p0, p1, p2, p3, _⟩, _⟩ := hJ1
                      go_simp
                      exact hK (nv m hm) _ hJ (Below.refl _ _) rfl
                    refine Inv.from_cons _ _ _ _ rfl (fun _ a w hJ hF F K hK => ?_) ?_
                    · have hz : a.tmps.size = 126 := hF.size
                      have e118 : a.tmps[118]? = some (.bool true) := Inv2.some_slot (by rw [hz]; exact Nat.le_of_ble_eq_true rfl) (F 21 (by kernel_rfl) 118 rfl)
                      obtain ⟨x122, e122, f25⟩ : ∃ x, a.tmps[122]? = some x ∧ Lv (ins key value l) x w := ⟨_, Inv2.some_slot (by rw [hz]; exact Nat.le_of_ble_eq_true rfl) rfl, F 25 (by kernel_rfl) 122 rfl⟩
                      have e123 : a.tmps[123]? = some (nv m hm) := Inv2.some_slot (by rw [hz]; exact Nat.le_of_ble_eq_true rfl) (F 26 (by kernel_rfl) 123 rfl)
                      clear F hF hz
                      have hJ1 := hJ
                      obtain ⟨⟨⟨c0, c1, c2, c3, _⟩, _, _⟩, ⟨d0, d1, d2, d3, _⟩, _, ⟨p0, p1, p2, p3, _⟩, _⟩ := hJ1
                      obtain ⟨m6, h6, rfl, q6, l6⟩ := f25
                      have h6s : Small m6 := by rw [q6]; exact HLF1.out.small (by omega)
                      have hh := rsame_any w m6 m h6 hm l6 hJ.2.2.1 h6s.k HSM.out.k h6s.v HSM.out.v h6s.d true ⟨fun _ => q6.trans HQM.out.symm, fun _ => rfl⟩
                      clear h6s q6
                      go_simp
                      (with_reducible refine hh.mono ?_)
                      rintro e w' ⟨rfl, hb⟩
                      go_simp
                      exact hK _ _ ⟨hJ.1.below hb, hJ.2.1.below hb, hJ.2.2.1.below hb, hJ.2.2.2.1.below hb, hJ.2.2.2.2.below hb⟩ hb rfl
                    refine Inv.from_cons _ _ _ _ rfl (fun _ a w hJ hF F K hK => ?_) ?_
                    · have hz : a.tmps.size = 126 := hF.size
                      have e118 : a.tmps[118]? = some (.bool true) := Inv2.some_slot (by rw [hz]; exact Nat.le_of_ble_eq_true rfl) (F 21 (by kernel_rfl) 118 rfl)
                      have e124 : a.tmps[124]? = some (.bool true) := Inv2.some_slot (by rw [hz]; exact Nat.le_of_ble_eq_true rfl) (F 27 (by kernel_rfl) 124 rfl)
                      clear F hF hz
                      have hJ1 := hJ
                      obtain ⟨⟨⟨c0, c1, c2, c3, _⟩, _, _⟩, ⟨d0, d1, d2, d3, _⟩, _, ⟨p0, p1, p2, p3, _⟩, _⟩ := hJ1
                      go_simp
                      exact hK (.bool true) _ hJ (Below.refl _ _) rfl
                    refine Inv.from_skip _ _ _ _ rfl ?_
                    exact Inv.from_end _ _ _ _ (by decide +kernel)
                  · intro o ho a w hJ hF F K hK
                    injection (show some _ = some o from ho) with ho
                    subst ho
                    obtain ⟨f, hf⟩ : ∃ f : Nat → Value, ∀ i, a.tmps.getD i undef = f i := ⟨_, fun _ => rfl⟩
                    have g1 : f 1 = (.string key) := (hf 1).symm.trans (hF.slot 1 (by kernel_rfl))
                    have g2 : f 2 = (.string value) := (hf 2).symm.trans (hF.slot 2 (by kernel_rfl))
                    have g3 : f 3 = (.string other) := (hf 3).symm.trans (hF.slot 3 (by kernel_rfl))
                    have g4 : f 4 = (.pointer (some ⟨W.heap.size, 0, none⟩)) := (hf 4).symm.trans (hF.slot 4 (by kernel_rfl))
                    have g9 : f 9 = (.pointer (some ⟨g5, 0, none⟩)) := (hf 9).symm.trans (hF.slot 9 (by kernel_rfl))
                    have g10 : f 10 = (.int .i64 (am : Int)) := (hf 10).symm.trans (hF.slot 10 (by kernel_rfl))
                    have g11 : f 11 = (.bool true) := (hf 11).symm.trans (hF.slot 11 (by kernel_rfl))
                    have g12 : f 12 = (.pointer (some ⟨g7, 0, none⟩)) := (hf 12).symm.trans (hF.slot 12 (by kernel_rfl))
                    have g14 : f 14 = (.bool false) := (hf 14).symm.trans (hF.slot 14 (by kernel_rfl))
                    have g97 : f 97 = (nv d hd) := (hf 97).symm.trans (F 0 (by decide) 97 rfl)
                    have g98 : f 98 = (.int .i64 0) := (hf 98).symm.trans (F 1 (by decide) 98 rfl)
                    have g99 : f 99 = (.bool true) := (hf 99).symm.trans (F 2 (by decide) 99 rfl)
                    have g100 : f 100 = (.bool true) := (hf 100).symm.trans (F 3 (by decide) 100 rfl)
                    have g101 : f 101 = (.bool false) := (hf 101).symm.trans (F 4 (by decide) 101 rfl)
                    have g102 : f 102 = (.bool true) := (hf 102).symm.trans (F 5 (by decide) 102 rfl)
                    have g103 : f 103 = (.bool true) := (hf 103).symm.trans (F 6 (by decide) 103 rfl)
                    have g104 : f 104 = (.bool true) := (hf 104).symm.trans (F 7 (by decide) 104 rfl)
                    have g105 : f 105 = (.string other) := (hf 105).symm.trans (F 8 (by decide) 105 rfl)
                    have g106 : f 106 = (.string key) := (hf 106).symm.trans (F 9 (by decide) 106 rfl)
                    have g107 : f 107 = (.bool false) := (hf 107).symm.trans (F 10 (by decide) 107 rfl)
                    have g108 : f 108 = (.bool false) := (hf 108).symm.trans (F 11 (by decide) 108 rfl)
                    have g109 : f 109 = (nv d hd) := (hf 109).symm.trans (F 12 (by decide) 109 rfl)
                    have g110 : f 110 = (.string other) := (hf 110).symm.trans (F 13 (by decide) 110 rfl)
                    have g111 : f 111 = (.string (gt l other)) := (hf 111).symm.trans (F 14 (by decide) 111 rfl)
                    have g112 : f 112 = (nv n h) := (hf 112).symm.trans (F 15 (by decide) 112 rfl)
                    have g113 : f 113 = (.string other) := (hf 113).symm.trans (F 16 (by decide) 113 rfl)
                    have g114 : f 114 = (.string (gt l other)) := (hf 114).symm.trans (F 17 (by decide) 114 rfl)
                    have g115 : f 115 = (.bool true) := (hf 115).symm.trans (F 18 (by decide) 115 rfl)
                    have g116 : f 116 = (.bool true) := (hf 116).symm.trans (F 19 (by decide) 116 rfl)
                    have g117 : f 117 = (.bool true) := (hf 117).symm.trans (F 20 (by decide) 117 rfl)
                    have g118 : f 118 = (.bool true) := (hf 118).symm.trans (F 21 (by decide) 118 rfl)
                    have g119 : f 119 = (nv m hm) := (hf 119).symm.trans (F 22 (by decide) 119 rfl)
                    have g120 : f 120 = (.string key) := (hf 120).symm.trans (F 23 (by decide) 120 rfl)
                    have g121 : f 121 = (.string value) := (hf 121).symm.trans (F 24 (by decide) 121 rfl)
                    obtain ⟨x122, g122⟩ : ∃ x, f 122 = x := ⟨_, rfl⟩
                    have f25 : Lv (ins key value l) x122 w := by rw [← g122, ← hf 122]; exact F 25 (by decide) 122 rfl
                    have g123 : f 123 = (nv m hm) := (hf 123).symm.trans (F 26 (by decide) 123 rfl)
                    have g124 : f 124 = (.bool true) := (hf 124).symm.trans (F 27 (by decide) 124 rfl)
                    have g125 : f 125 = (.bool true) := (hf 125).symm.trans (F 28 (by decide) 125 rfl)
                    have ha := Frames.frame (show a.tmps.size = 126 from hF.size) hF.defers hf (l := [f 0, f 1, f 2, f 3, f 4, f 5, f 6, f 7, f 8, f 9, f 10, f 11, f 12, f 13, f 14, f 15, f 16, f 17, f 18, f 19, f 20, f 21, f 22, f 23, f 24, f 25, f 26, f 27, f 28, f 29, f 30, f 31, f 32, f 33, f 34, f 35, f 36, f 37, f 38, f 39, f 40, f 41, f 42, f 43, f 44, f 45, f 46, f 47, f 48, f 49, f 50, f 51, f 52, f 53, f 54, f 55, f 56, f 57, f 58, f 59, f 60, f 61, f 62, f 63, f 64, f 65, f 66, f 67, f 68, f 69, f 70, f 71, f 72, f 73, f 74, f 75, f 76, f 77, f 78, f 79, f 80, f 81, f 82, f 83, f 84, f 85, f 86, f 87, f 88, f 89, f 90, f 91, f 92, f 93, f 94, f 95, f 96, f 97, f 98, f 99, f 100, f 101, f 102, f 103, f 104, f 105, f 106, f 107, f 108, f 109, f 110, f 111, f 112, f 113, f 114, f 115, f 116, f 117, f 118, f 119, f 120, f 121, f 122, f 123, f 124, f 125]) rfl
                    simp only [g1, g2, g3, g4, g9, g10, g11, g12, g14, g97, g98, g99, g100, g101, g102, g103, g104, g105, g106, g107, g108, g109, g110, g111, g112, g113, g114, g115, g116, g117, g118, g119, g120, g121, g122, g123, g124, g125] at ha
                    clear F hF hf g1 g2 g3 g4 g9 g10 g11 g12 g14 g97 g98 g99 g100 g101 g102 g103 g104 g105 g106 g107 g108 g109 g110 g111 g112 g113 g114 g115 g116 g117 g118 g119 g120 g121 g122 g123 g124 g125
                    subst ha
                    have hJ1 := hJ
                    obtain ⟨⟨⟨c0, c1, c2, c3, _⟩, _, _⟩, ⟨d0, d1, d2, d3, _⟩, _, ⟨p0, p1, p2, p3, _⟩, _⟩ := hJ1
                    go_simp
                    refine hK _ _ ?_
                    clear hK
                    go_wp2_with fail
                    go_ret
                    exact ⟨rfl, hJ.1.2.2⟩
                  · intro hq; exact absurd hq (by decide +kernel)
    · have he2 : (er != 0) = true := by simpa using he0
      clear he0 HER hfew hsm
      go_wp2_with fail
      refine (awake_any w3).mono ?_
      rintro e w9 ⟨rfl, b9⟩
      have s9 := s3.below b9
      go_wp2_with fail
      go_ret
      exact ⟨rfl, s9.2.2⟩
end Go.Proofs.Ytpcpfcllgadghaa.NodePuts
