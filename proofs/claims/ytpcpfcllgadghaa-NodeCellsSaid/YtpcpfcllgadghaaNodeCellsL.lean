/- The walk of NodeCells. -/
import Derived.Test.YtpcpfcllgadghaaNodeRooms
import Derived.Test.YtpcpfcllgadghaaNodeRefCheck
import Derived.Test.YtpcpfcllgadghaaNodeCellsM
import Derived.Test.YtpcpfcllgadghaaFrames
namespace Go.Proofs.Ytpcpfcllgadghaa.NodeCellsL
open Go.RowKit Base NodePlain NodeRead NodeSlice NodeCheck NodeBox NodeEnt NodeCells NodeRd NodeOf2 NodeOf3 NodeFind NodeAwake NodePlumb NodeRooms NodeRefCheck NodeSame NodeStore NodeWant NodeOfL NodeCellsM

set_option maxRecDepth 100000 in
set_option maxHeartbeats 25600000 in
theorem NodeCells_walk (n : Nd) (h : Hd) (W : World) (hL : Lay W n h) (hk : n.keys.length ≤ maxLen) (hv : n.vals.length ≤ maxLen) :
    Calls Try.prog 3 #[nv n h] W (Law W) := by
  obtain ⟨fb, hfb⟩ := pick_b (Few n)
  obtain ⟨er, her⟩ := chk_any n
  have HER := Lib.hid her
  have HCW := Lib.hid (fun w' (s : Begun W n h w') (hsm : Small n) => rcheck_any w' n h s.2.1 hsm er her)
  have HS := Lib.hid (begunL hL)
  have HFW := Lib.hid (fun w' (s : Begun W n h w') => NodeRoom.few_any w' n h s.2.1 hk hv fb hfb)
  clear hk hv hL her
  go_enter Try.func3, Try.ntmps3
  go_wp2_with fail
  refine (awake_any _).mono ?_
  rintro e w1 ⟨rfl, b1⟩
  have s1 := HS.out w1 b1
  clear HS b1
  obtain ⟨c0, c1, c2, c3, _⟩ := s1.1
  go_wp2_with fail
  refine (HFW.out w1 s1).mono ?_
  rintro e w2 ⟨rfl, b2⟩
  have s2 := s1.below b2
  clear s1 b2 HFW c0 c1 c2 c3
  cases fb with
  | false =>
    clear hfb
    go_wp2_with fail
    refine (awake_any w2).mono ?_
    rintro e w9 ⟨rfl, b9⟩
    have s9 := s2.below b9
    go_wp2_with fail
    go_ret
    exact ⟨rfl, s9.2.2⟩
  | true =>
    have hfew := hfb.1 rfl
    have hsm : Small n := hfew.small
    clear hfb
    obtain ⟨c0, c1, c2, c3, _⟩ := s2.1
    have HSM := Lib.hid hsm
    have HFE := Lib.hid hfew
    have hce := cells_any w2 n h s2.2.1 hsm er HER.out
    clear hsm hfew
    go_wp2_with fail
    clear c0 c1 c2 c3
    refine hce.mono ?_
    rintro e w3 ⟨b3', hcase⟩
    have b3 : Below w2.heap.size w2 w3 := b3'
    have s3 := s2.below b3
    clear hce b3' s2
    rcases hcase with ⟨he0, rfl⟩ | ⟨he0, A, m, c, rfl, hS⟩
    · have HNE := Lib.hid he0
      clear he0
      clear b3
      obtain ⟨c0, c1, c2, c3, _⟩ := s3.1
      go_wp2_with fail
      refine (HCW.out w3 s3 HSM.out).mono ?_
      rintro e w4 ⟨rfl, b4⟩
      have s4 := s3.below b4
      clear HCW c0 c1 c2 c3
      go_wp2_with fail
      have hJ0 : (fun w' : World => Begun W n h w') (World.drew w4) := s4.below (Below.refl _ _).drew
      clear s4 s3 b4
      refine wp_region_any (by kernel_rfl) ?_
      change wpAny _ _ _ _ _ _ _ (World.drew _)
      refine Inv.inv_any (fun (i : Nat) (v : Value) (w : World) => match i with | 0 => v = nv n h | 1 => v = .int .i64 er | 2 => v = .int .i64 er | 3 => v = .bool false | 4 => v = .bool false | 5 => v = nv n h | 6 => v = .int .i64 (room n : Int) | 7 => v = nv n h | 8 => v = .int .i64 (room n : Int) | 9 => v = .bool false | 10 => v = .bool false | _ => True) (fun w' : World => Begun W n h w') _ 11 70 rfl rfl rfl (by kernel_rfl) (by kernel_rfl) hJ0 ?_ ?_ ?_ ?_
      · intro j v w w' h hb
        match j, h with
        | 0, h => exact h
        | 1, h => exact h
        | 2, h => exact h
        | 3, h => exact h
        | 4, h => exact h
        | 5, h => exact h
        | 6, h => exact h
        | 7, h => exact h
        | 8, h => exact h
        | 9, h => exact h
        | 10, h => exact h
        | (_ + 11), _ => exact trivial
      · skip
        refine Inv.from_cons _ _ _ _ rfl (fun _ a w hJ hF F K hK => ?_) ?_
        · have hz : a.tmps.size = 70 := hF.size
          have e1 : a.tmps[1]? = some (.pointer (some ⟨W.heap.size, 0, none⟩)) := Inv2.some_slot (by rw [hz]; exact Nat.le_of_ble_eq_true rfl) (hF.slot 1 (by kernel_rfl))
          clear F hF hz
          have hJ1 := hJ
          obtain ⟨⟨c0, c1, c2, c3, _⟩, _, _⟩ := hJ1
          go_simp
          exact hK (nv n h) _ hJ (Below.refl _ _) rfl
        refine Inv.from_cons _ _ _ _ rfl (fun _ a w hJ hF F K hK => ?_) ?_
        · have hz : a.tmps.size = 70 := hF.size
          have e23 : a.tmps[23]? = some (nv n h) := Inv2.some_slot (by rw [hz]; exact Nat.le_of_ble_eq_true rfl) (F 0 (by kernel_rfl) 23 rfl)
          clear F hF hz
          have hJ1 := hJ
          obtain ⟨⟨c0, c1, c2, c3, _⟩, _, _⟩ := hJ1
          have hh := check_any w n h hJ.2.1 HSM.out er HER.out
          go_simp
          (with_reducible refine hh.mono ?_)
          rintro e w' ⟨rfl, hb⟩
          go_simp
          exact hK _ _ (hJ.below hb) hb rfl
        refine Inv.from_cons _ _ _ _ rfl (fun _ a w hJ hF F K hK => ?_) ?_
        · have hz : a.tmps.size = 70 := hF.size
          have e5 : a.tmps[5]? = some (.int .i64 er) := Inv2.some_slot (by rw [hz]; exact Nat.le_of_ble_eq_true rfl) (hF.slot 5 (by kernel_rfl))
          clear F hF hz
          have hJ1 := hJ
          obtain ⟨⟨c0, c1, c2, c3, _⟩, _, _⟩ := hJ1
          go_simp
          exact hK (.int .i64 er) _ hJ (Below.refl _ _) rfl
        refine Inv.from_cons _ _ _ _ rfl (fun _ a w hJ hF F K hK => ?_) ?_
        · have hz : a.tmps.size = 70 := hF.size
          have e24 : a.tmps[24]? = some (.int .i64 er) := Inv2.some_slot (by rw [hz]; exact Nat.le_of_ble_eq_true rfl) (F 1 (by kernel_rfl) 24 rfl)
          have e25 : a.tmps[25]? = some (.int .i64 er) := Inv2.some_slot (by rw [hz]; exact Nat.le_of_ble_eq_true rfl) (F 2 (by kernel_rfl) 25 rfl)
          clear F hF hz
          have hJ1 := hJ
          obtain ⟨⟨c0, c1, c2, c3, _⟩, _, _⟩ := hJ1
          go_simp
          exact hK (.bool false) _ hJ (Below.refl _ _) rfl
        refine Inv.from_cons _ _ _ _ rfl (fun _ a w hJ hF F K hK => ?_) ?_
        · have hz : a.tmps.size = 70 := hF.size
          have e24 : a.tmps[24]? = some (.int .i64 er) := Inv2.some_slot (by rw [hz]; exact Nat.le_of_ble_eq_true rfl) (F 1 (by kernel_rfl) 24 rfl)
          have e26 : a.tmps[26]? = some (.bool false) := Inv2.some_slot (by rw [hz]; exact Nat.le_of_ble_eq_true rfl) (F 3 (by kernel_rfl) 26 rfl)
          clear F hF hz
          have hJ1 := hJ
          obtain ⟨⟨c0, c1, c2, c3, _⟩, _, _⟩ := hJ1
          go_simp
          exact hK (.bool false) _ hJ (Below.refl _ _) rfl
        refine Inv.from_cons _ _ _ _ rfl (fun _ a w hJ hF F K hK => ?_) ?_
        · have hz : a.tmps.size = 70 := hF.size
          have e1 : a.tmps[1]? = some (.pointer (some ⟨W.heap.size, 0, none⟩)) := Inv2.some_slot (by rw [hz]; exact Nat.le_of_ble_eq_true rfl) (hF.slot 1 (by kernel_rfl))
          have e27 : a.tmps[27]? = some (.bool false) := Inv2.some_slot (by rw [hz]; exact Nat.le_of_ble_eq_true rfl) (F 4 (by kernel_rfl) 27 rfl)
          clear F hF hz
          have hJ1 := hJ
          obtain ⟨⟨c0, c1, c2, c3, _⟩, _, _⟩ := hJ1
          go_simp
          exact hK (nv n h) _ hJ (Below.refl _ _) rfl
        refine Inv.from_cons _ _ _ _ rfl (fun _ a w hJ hF F K hK => ?_) ?_
        · have hz : a.tmps.size = 70 := hF.size
          have e27 : a.tmps[27]? = some (.bool false) := Inv2.some_slot (by rw [hz]; exact Nat.le_of_ble_eq_true rfl) (F 4 (by kernel_rfl) 27 rfl)
          have e28 : a.tmps[28]? = some (nv n h) := Inv2.some_slot (by rw [hz]; exact Nat.le_of_ble_eq_true rfl) (F 5 (by kernel_rfl) 28 rfl)
          clear F hF hz
          have hJ1 := hJ
          obtain ⟨⟨c0, c1, c2, c3, _⟩, _, _⟩ := hJ1
          have hh := NodeRoom.room_any w n h hJ.2.1 HSM.out
          go_simp
          (with_reducible refine hh.mono ?_)
          rintro e w' ⟨rfl, hb⟩
          go_simp
          exact hK _ _ (hJ.below hb) hb rfl
        refine Inv.from_cons _ _ _ _ rfl (fun _ a w hJ hF F K hK => ?_) ?_
        · have hz : a.tmps.size = 70 := hF.size
          have e1 : a.tmps[1]? = some (.pointer (some ⟨W.heap.size, 0, none⟩)) := Inv2.some_slot (by rw [hz]; exact Nat.le_of_ble_eq_true rfl) (hF.slot 1 (by kernel_rfl))
          have e27 : a.tmps[27]? = some (.bool false) := Inv2.some_slot (by rw [hz]; exact Nat.le_of_ble_eq_true rfl) (F 4 (by kernel_rfl) 27 rfl)
          clear F hF hz
          have hJ1 := hJ
          obtain ⟨⟨c0, c1, c2, c3, _⟩, _, _⟩ := hJ1
          go_simp
          exact hK (nv n h) _ hJ (Below.refl _ _) rfl
        refine Inv.from_cons _ _ _ _ rfl (fun _ a w hJ hF F K hK => ?_) ?_
        · have hz : a.tmps.size = 70 := hF.size
          have e27 : a.tmps[27]? = some (.bool false) := Inv2.some_slot (by rw [hz]; exact Nat.le_of_ble_eq_true rfl) (F 4 (by kernel_rfl) 27 rfl)
          have e29 : a.tmps[29]? = some (.int .i64 (room n : Int)) := Inv2.some_slot (by rw [hz]; exact Nat.le_of_ble_eq_true rfl) (F 6 (by kernel_rfl) 29 rfl)
          have e30 : a.tmps[30]? = some (nv n h) := Inv2.some_slot (by rw [hz]; exact Nat.le_of_ble_eq_true rfl) (F 7 (by kernel_rfl) 30 rfl)
          clear F hF hz
          have hJ1 := hJ
          obtain ⟨⟨c0, c1, c2, c3, _⟩, _, _⟩ := hJ1
          have hh := NodeRoom.rroom_any w n h hJ.2.1 HSM.out
          go_simp
          (with_reducible refine hh.mono ?_)
          rintro e w' ⟨rfl, hb⟩
          go_simp
          exact hK _ _ (hJ.below hb) hb rfl
        refine Inv.from_cons _ _ _ _ rfl (fun _ a w hJ hF F K hK => ?_) ?_
        · have hz : a.tmps.size = 70 := hF.size
          have e27 : a.tmps[27]? = some (.bool false) := Inv2.some_slot (by rw [hz]; exact Nat.le_of_ble_eq_true rfl) (F 4 (by kernel_rfl) 27 rfl)
          have e29 : a.tmps[29]? = some (.int .i64 (room n : Int)) := Inv2.some_slot (by rw [hz]; exact Nat.le_of_ble_eq_true rfl) (F 6 (by kernel_rfl) 29 rfl)
          have e31 : a.tmps[31]? = some (.int .i64 (room n : Int)) := Inv2.some_slot (by rw [hz]; exact Nat.le_of_ble_eq_true rfl) (F 8 (by kernel_rfl) 31 rfl)
          clear F hF hz
          have hJ1 := hJ
          obtain ⟨⟨c0, c1, c2, c3, _⟩, _, _⟩ := hJ1
          go_simp
          exact hK (.bool false) _ hJ (Below.refl _ _) rfl
        refine Inv.from_cons _ _ _ _ rfl (fun _ a w hJ hF F K hK => ?_) ?_
        · have hz : a.tmps.size = 70 := hF.size
          have e27 : a.tmps[27]? = some (.bool false) := Inv2.some_slot (by rw [hz]; exact Nat.le_of_ble_eq_true rfl) (F 4 (by kernel_rfl) 27 rfl)
          have e32 : a.tmps[32]? = some (.bool false) := Inv2.some_slot (by rw [hz]; exact Nat.le_of_ble_eq_true rfl) (F 9 (by kernel_rfl) 32 rfl)
          clear F hF hz
          have hJ1 := hJ
          obtain ⟨⟨c0, c1, c2, c3, _⟩, _, _⟩ := hJ1
          go_simp
          exact hK (.bool false) _ hJ (Below.refl _ _) rfl
        exact Inv.from_end _ _ _ _ (by decide +kernel)
      · intro o ho; exact absurd ho (by simp)
      · intro _ a w hJ hF F
        obtain ⟨f, hf⟩ : ∃ f : Nat → Value, ∀ i, a.tmps.getD i undef = f i := ⟨_, fun _ => rfl⟩
        have g1 : f 1 = (.pointer (some ⟨W.heap.size, 0, none⟩)) := (hf 1).symm.trans (hF.slot 1 (by kernel_rfl))
        have g3 : f 3 = (.slice none 0 0) := (hf 3).symm.trans (hF.slot 3 (by kernel_rfl))
        have g4 : f 4 = (.int .i64 er) := (hf 4).symm.trans (hF.slot 4 (by kernel_rfl))
        have g5 : f 5 = (.int .i64 er) := (hf 5).symm.trans (hF.slot 5 (by kernel_rfl))
        have g23 : f 23 = (nv n h) := (hf 23).symm.trans (F 0 23 rfl)
        have g24 : f 24 = (.int .i64 er) := (hf 24).symm.trans (F 1 24 rfl)
        have g25 : f 25 = (.int .i64 er) := (hf 25).symm.trans (F 2 25 rfl)
        have g26 : f 26 = (.bool false) := (hf 26).symm.trans (F 3 26 rfl)
        have g27 : f 27 = (.bool false) := (hf 27).symm.trans (F 4 27 rfl)
        have g28 : f 28 = (nv n h) := (hf 28).symm.trans (F 5 28 rfl)
        have g29 : f 29 = (.int .i64 (room n : Int)) := (hf 29).symm.trans (F 6 29 rfl)
        have g30 : f 30 = (nv n h) := (hf 30).symm.trans (F 7 30 rfl)
        have g31 : f 31 = (.int .i64 (room n : Int)) := (hf 31).symm.trans (F 8 31 rfl)
        have g32 : f 32 = (.bool false) := (hf 32).symm.trans (F 9 32 rfl)
        have g33 : f 33 = (.bool false) := (hf 33).symm.trans (F 10 33 rfl)
        have ha := Frames.frame (show a.tmps.size = 70 from hF.size) hF.defers hf (l := [f 0, f 1, f 2, f 3, f 4, f 5, f 6, f 7, f 8, f 9, f 10, f 11, f 12, f 13, f 14, f 15, f 16, f 17, f 18, f 19, f 20, f 21, f 22, f 23, f 24, f 25, f 26, f 27, f 28, f 29, f 30, f 31, f 32, f 33, f 34, f 35, f 36, f 37, f 38, f 39, f 40, f 41, f 42, f 43, f 44, f 45, f 46, f 47, f 48, f 49, f 50, f 51, f 52, f 53, f 54, f 55, f 56, f 57, f 58, f 59, f 60, f 61, f 62, f 63, f 64, f 65, f 66, f 67, f 68, f 69]) rfl
        simp only [g1, g3, g4, g5, g23, g24, g25, g26, g27, g28, g29, g30, g31, g32, g33] at ha
        clear F hF hf g1 g3 g4 g5 g23 g24 g25 g26 g27 g28 g29 g30 g31 g32 g33
        subst ha
        have hJ1 := hJ
        obtain ⟨⟨c0, c1, c2, c3, _⟩, _, _⟩ := hJ1
        have he2 : (er != 0) = true := by simpa using HNE.out
        go_wp2_with fail
        go_ret
        exact ⟨rfl, hJ.2.2⟩
    · skip
      subst he0
      have hok := (chk_ok HER.out).1 rfl
      have HOK := Lib.hid hok
      have HCS := Lib.hid (cells_small hok HFE.out)
      clear hok
      obtain ⟨c0, c1, c2, c3, _⟩ := s3.1
      go_wp2_with fail
      refine (HCW.out w3 s3 HSM.out).mono ?_
      rintro e w4 ⟨rfl, b4⟩
      have s4 := s3.below b4
      clear HCW c0 c1 c2 c3
      go_wp2_with fail
      have hS4 := hS.sla.below b4
      clear hS b3 b4 s3
      have hJ0 : (fun w' : World => Begun W n h w' ∧ SlA (strs (cells n)) (.slice A m c) w') (World.drew w4) := ⟨s4.below (Below.refl _ _).drew, hS4.below (Below.refl _ _).drew⟩
      clear s4 hS4
      refine wp_region_any (by kernel_rfl) ?_
      change wpAny _ _ _ _ _ _ _ (World.drew _)
      refine Inv.inv_any (fun (i : Nat) (v : Value) (w : World) => match i with | 0 => v = nv n h | 1 => v = .int .i64 0 | 2 => v = .int .i64 0 | 3 => v = .bool false | 4 => v = .bool false | 5 => v = nv n h | 6 => v = .int .i64 (room n : Int) | 7 => v = nv n h | 8 => v = .int .i64 (room n : Int) | 9 => v = .bool false | 10 => v = .bool false | _ => True) (fun w' : World => Begun W n h w' ∧ SlA (strs (cells n)) (.slice A m c) w') _ 11 70 rfl rfl rfl (by kernel_rfl) (by kernel_rfl) hJ0 ?_ ?_ ?_ ?_
      · intro j v w w' h hb
        match j, h with
        | 0, h => exact h
        | 1, h => exact h
        | 2, h => exact h
        | 3, h => exact h
        | 4, h => exact h
        | 5, h => exact h
        | 6, h => exact h
        | 7, h => exact h
        | 8, h => exact h
        | 9, h => exact h
        | 10, h => exact h
        | (_ + 11), _ => exact trivial
      · skip
        refine Inv.from_cons _ _ _ _ rfl (fun _ a w hJ hF F K hK => ?_) ?_
        · have hz : a.tmps.size = 70 := hF.size
          have e1 : a.tmps[1]? = some (.pointer (some ⟨W.heap.size, 0, none⟩)) := Inv2.some_slot (by rw [hz]; exact Nat.le_of_ble_eq_true rfl) (hF.slot 1 (by kernel_rfl))
          clear F hF hz
          have hJ1 := hJ
          obtain ⟨⟨⟨c0, c1, c2, c3, _⟩, _, _⟩, _⟩ := hJ1
          go_simp
          exact hK (nv n h) _ hJ (Below.refl _ _) rfl
        refine Inv.from_cons _ _ _ _ rfl (fun _ a w hJ hF F K hK => ?_) ?_
        · have hz : a.tmps.size = 70 := hF.size
          have e23 : a.tmps[23]? = some (nv n h) := Inv2.some_slot (by rw [hz]; exact Nat.le_of_ble_eq_true rfl) (F 0 (by kernel_rfl) 23 rfl)
          clear F hF hz
          have hJ1 := hJ
          obtain ⟨⟨⟨c0, c1, c2, c3, _⟩, _, _⟩, _⟩ := hJ1
          have hh := check_any w n h hJ.1.2.1 HSM.out 0 HER.out
          go_simp
          (with_reducible refine hh.mono ?_)
          rintro e w' ⟨rfl, hb⟩
          go_simp
          exact hK _ _ ⟨hJ.1.below hb, hJ.2.below hb⟩ hb rfl
        refine Inv.from_cons _ _ _ _ rfl (fun _ a w hJ hF F K hK => ?_) ?_
        · have hz : a.tmps.size = 70 := hF.size
          have e5 : a.tmps[5]? = some (.int .i64 0) := Inv2.some_slot (by rw [hz]; exact Nat.le_of_ble_eq_true rfl) (hF.slot 5 (by kernel_rfl))
          clear F hF hz
          have hJ1 := hJ
          obtain ⟨⟨⟨c0, c1, c2, c3, _⟩, _, _⟩, _⟩ := hJ1
          go_simp
          exact hK (.int .i64 0) _ hJ (Below.refl _ _) rfl
        refine Inv.from_cons _ _ _ _ rfl (fun _ a w hJ hF F K hK => ?_) ?_
        · have hz : a.tmps.size = 70 := hF.size
          have e24 : a.tmps[24]? = some (.int .i64 0) := Inv2.some_slot (by rw [hz]; exact Nat.le_of_ble_eq_true rfl) (F 1 (by kernel_rfl) 24 rfl)
          have e25 : a.tmps[25]? = some (.int .i64 0) := Inv2.some_slot (by rw [hz]; exact Nat.le_of_ble_eq_true rfl) (F 2 (by kernel_rfl) 25 rfl)
          clear F hF hz
          have hJ1 := hJ
          obtain ⟨⟨⟨c0, c1, c2, c3, _⟩, _, _⟩, _⟩ := hJ1
          go_simp
          exact hK (.bool false) _ hJ (Below.refl _ _) rfl
        refine Inv.from_cons _ _ _ _ rfl (fun _ a w hJ hF F K hK => ?_) ?_
        · have hz : a.tmps.size = 70 := hF.size
          have e24 : a.tmps[24]? = some (.int .i64 0) := Inv2.some_slot (by rw [hz]; exact Nat.le_of_ble_eq_true rfl) (F 1 (by kernel_rfl) 24 rfl)
          have e26 : a.tmps[26]? = some (.bool false) := Inv2.some_slot (by rw [hz]; exact Nat.le_of_ble_eq_true rfl) (F 3 (by kernel_rfl) 26 rfl)
          clear F hF hz
          have hJ1 := hJ
          obtain ⟨⟨⟨c0, c1, c2, c3, _⟩, _, _⟩, _⟩ := hJ1
          go_simp
          exact hK (.bool false) _ hJ (Below.refl _ _) rfl
        refine Inv.from_cons _ _ _ _ rfl (fun _ a w hJ hF F K hK => ?_) ?_
        · have hz : a.tmps.size = 70 := hF.size
          have e1 : a.tmps[1]? = some (.pointer (some ⟨W.heap.size, 0, none⟩)) := Inv2.some_slot (by rw [hz]; exact Nat.le_of_ble_eq_true rfl) (hF.slot 1 (by kernel_rfl))
          have e27 : a.tmps[27]? = some (.bool false) := Inv2.some_slot (by rw [hz]; exact Nat.le_of_ble_eq_true rfl) (F 4 (by kernel_rfl) 27 rfl)
          clear F hF hz
          have hJ1 := hJ
          obtain ⟨⟨⟨c0, c1, c2, c3, _⟩, _, _⟩, _⟩ := hJ1
          go_simp
          exact hK (nv n h) _ hJ (Below.refl _ _) rfl
        refine Inv.from_cons _ _ _ _ rfl (fun _ a w hJ hF F K hK => ?_) ?_
        · have hz : a.tmps.size = 70 := hF.size
          have e27 : a.tmps[27]? = some (.bool false) := Inv2.some_slot (by rw [hz]; exact Nat.le_of_ble_eq_true rfl) (F 4 (by kernel_rfl) 27 rfl)
          have e28 : a.tmps[28]? = some (nv n h) := Inv2.some_slot (by rw [hz]; exact Nat.le_of_ble_eq_true rfl) (F 5 (by kernel_rfl) 28 rfl)
          clear F hF hz
          have hJ1 := hJ
          obtain ⟨⟨⟨c0, c1, c2, c3, _⟩, _, _⟩, _⟩ := hJ1
          have hh := NodeRoom.room_any w n h hJ.1.2.1 HSM.out
          go_simp
          (with_reducible refine hh.mono ?_)
          rintro e w' ⟨rfl, hb⟩
          go_simp
          exact hK _ _ ⟨hJ.1.below hb, hJ.2.below hb⟩ hb rfl
        refine Inv.from_cons _ _ _ _ rfl (fun _ a w hJ hF F K hK => ?_) ?_
        · have hz : a.tmps.size = 70 := hF.size
          have e1 : a.tmps[1]? = some (.pointer (some ⟨W.heap.size, 0, none⟩)) := Inv2.some_slot (by rw [hz]; exact Nat.le_of_ble_eq_true rfl) (hF.slot 1 (by kernel_rfl))
          have e27 : a.tmps[27]? = some (.bool false) := Inv2.some_slot (by rw [hz]; exact Nat.le_of_ble_eq_true rfl) (F 4 (by kernel_rfl) 27 rfl)
          clear F hF hz
          have hJ1 := hJ
          obtain ⟨⟨⟨c0, c1, c2, c3, _⟩, _, _⟩, _⟩ := hJ1
          go_simp
          exact hK (nv n h) _ hJ (Below.refl _ _) rfl
        refine Inv.from_cons _ _ _ _ rfl (fun _ a w hJ hF F K hK => ?_) ?_
        · have hz : a.tmps.size = 70 := hF.size
          have e27 : a.tmps[27]? = some (.bool false) := Inv2.some_slot (by rw [hz]; exact Nat.le_of_ble_eq_true rfl) (F 4 (by kernel_rfl) 27 rfl)
          have e29 : a.tmps[29]? = some (.int .i64 (room n : Int)) := Inv2.some_slot (by rw [hz]; exact Nat.le_of_ble_eq_true rfl) (F 6 (by kernel_rfl) 29 rfl)
          have e30 : a.tmps[30]? = some (nv n h) := Inv2.some_slot (by rw [hz]; exact Nat.le_of_ble_eq_true rfl) (F 7 (by kernel_rfl) 30 rfl)
          clear F hF hz
          have hJ1 := hJ
          obtain ⟨⟨⟨c0, c1, c2, c3, _⟩, _, _⟩, _⟩ := hJ1
          have hh := NodeRoom.rroom_any w n h hJ.1.2.1 HSM.out
          go_simp
          (with_reducible refine hh.mono ?_)
          rintro e w' ⟨rfl, hb⟩
          go_simp
          exact hK _ _ ⟨hJ.1.below hb, hJ.2.below hb⟩ hb rfl
        refine Inv.from_cons _ _ _ _ rfl (fun _ a w hJ hF F K hK => ?_) ?_
        · have hz : a.tmps.size = 70 := hF.size
          have e27 : a.tmps[27]? = some (.bool false) := Inv2.some_slot (by rw [hz]; exact Nat.le_of_ble_eq_true rfl) (F 4 (by kernel_rfl) 27 rfl)
          have e29 : a.tmps[29]? = some (.int .i64 (room n : Int)) := Inv2.some_slot (by rw [hz]; exact Nat.le_of_ble_eq_true rfl) (F 6 (by kernel_rfl) 29 rfl)
          have e31 : a.tmps[31]? = some (.int .i64 (room n : Int)) := Inv2.some_slot (by rw [hz]; exact Nat.le_of_ble_eq_true rfl) (F 8 (by kernel_rfl) 31 rfl)
          clear F hF hz
          have hJ1 := hJ
          obtain ⟨⟨⟨c0, c1, c2, c3, _⟩, _, _⟩, _⟩ := hJ1
          go_simp
          exact hK (.bool false) _ hJ (Below.refl _ _) rfl
        refine Inv.from_cons _ _ _ _ rfl (fun _ a w hJ hF F K hK => ?_) ?_
        · have hz : a.tmps.size = 70 := hF.size
          have e27 : a.tmps[27]? = some (.bool false) := Inv2.some_slot (by rw [hz]; exact Nat.le_of_ble_eq_true rfl) (F 4 (by kernel_rfl) 27 rfl)
          have e32 : a.tmps[32]? = some (.bool false) := Inv2.some_slot (by rw [hz]; exact Nat.le_of_ble_eq_true rfl) (F 9 (by kernel_rfl) 32 rfl)
          clear F hF hz
          have hJ1 := hJ
          obtain ⟨⟨⟨c0, c1, c2, c3, _⟩, _, _⟩, _⟩ := hJ1
          go_simp
          exact hK (.bool false) _ hJ (Below.refl _ _) rfl
        exact Inv.from_end _ _ _ _ (by decide +kernel)
      · intro o ho; exact absurd ho (by simp)
      · intro _ a w hJ hF F
        obtain ⟨f, hf⟩ : ∃ f : Nat → Value, ∀ i, a.tmps.getD i undef = f i := ⟨_, fun _ => rfl⟩
        have g1 : f 1 = (.pointer (some ⟨W.heap.size, 0, none⟩)) := (hf 1).symm.trans (hF.slot 1 (by kernel_rfl))
        have g3 : f 3 = (.slice A m c) := (hf 3).symm.trans (hF.slot 3 (by kernel_rfl))
        have g4 : f 4 = (.int .i64 0) := (hf 4).symm.trans (hF.slot 4 (by kernel_rfl))
        have g5 : f 5 = (.int .i64 0) := (hf 5).symm.trans (hF.slot 5 (by kernel_rfl))
        have g23 : f 23 = (nv n h) := (hf 23).symm.trans (F 0 23 rfl)
        have g24 : f 24 = (.int .i64 0) := (hf 24).symm.trans (F 1 24 rfl)
        have g25 : f 25 = (.int .i64 0) := (hf 25).symm.trans (F 2 25 rfl)
        have g26 : f 26 = (.bool false) := (hf 26).symm.trans (F 3 26 rfl)
        have g27 : f 27 = (.bool false) := (hf 27).symm.trans (F 4 27 rfl)
        have g28 : f 28 = (nv n h) := (hf 28).symm.trans (F 5 28 rfl)
        have g29 : f 29 = (.int .i64 (room n : Int)) := (hf 29).symm.trans (F 6 29 rfl)
        have g30 : f 30 = (nv n h) := (hf 30).symm.trans (F 7 30 rfl)
        have g31 : f 31 = (.int .i64 (room n : Int)) := (hf 31).symm.trans (F 8 31 rfl)
        have g32 : f 32 = (.bool false) := (hf 32).symm.trans (F 9 32 rfl)
        have g33 : f 33 = (.bool false) := (hf 33).symm.trans (F 10 33 rfl)
        have ha := Frames.frame (show a.tmps.size = 70 from hF.size) hF.defers hf (l := [f 0, f 1, f 2, f 3, f 4, f 5, f 6, f 7, f 8, f 9, f 10, f 11, f 12, f 13, f 14, f 15, f 16, f 17, f 18, f 19, f 20, f 21, f 22, f 23, f 24, f 25, f 26, f 27, f 28, f 29, f 30, f 31, f 32, f 33, f 34, f 35, f 36, f 37, f 38, f 39, f 40, f 41, f 42, f 43, f 44, f 45, f 46, f 47, f 48, f 49, f 50, f 51, f 52, f 53, f 54, f 55, f 56, f 57, f 58, f 59, f 60, f 61, f 62, f 63, f 64, f 65, f 66, f 67, f 68, f 69]) rfl
        simp only [g1, g3, g4, g5, g23, g24, g25, g26, g27, g28, g29, g30, g31, g32, g33] at ha
        clear F hF hf g1 g3 g4 g5 g23 g24 g25 g26 g27 g28 g29 g30 g31 g32 g33
        subst ha
        have hJ1 := hJ
        obtain ⟨⟨⟨c0, c1, c2, c3, _⟩, _, _⟩, _⟩ := hJ1
        have s5 := hJ.1
        have hS5 := hJ.2
        clear hJ
        go_wp2_with fail
        clear c0 c1 c2 c3
        have hJ0 : ∀ a0 : Act, J9 W n h A m c (fun _ => false) a0 (World.drew w) := fun _ => ⟨s5.below (Below.refl _ _).drew, hS5.below (Below.refl _ _).drew, fun hq => (by cases hq)⟩
        clear s5 hS5
        refine wp_region_any (by kernel_rfl) ?_
        change wpAny _ _ _ _ _ _ _ (World.drew _)
        refine Inv4.inv_any (fun (i : Nat) (v : Value) (w : World) => match i with | 0 => v = .pointer (some ⟨W.heap.size, 0, none⟩) | 1 => v = .bool n.leaf | 2 => Emp v w | 3 => v = .slice A m c | 4 => SlA (strs (cells n)) v w | 5 => Tn n v w | 6 => Tn n v w | 7 => Nv n v w | 8 => v = .int .i64 0 | 11 => v = .int .i64 0 | _ => True) Rl (fun q a w => J9 W n h A m c q a w) _ ?_ 70 rfl rfl rfl (by kernel_rfl) (hJ0 _) ?_ ?_
        · intro j v w w' h hb
          match j, h with
          | 0, h => exact h
          | 1, h => exact h
          | 2, h => exact h
          | 3, h => exact h
          | 4, h => exact hb.sla h
          | 5, h => exact hb.tn h
          | 6, h => exact hb.tn h
          | 7, h => exact hb.nv h
          | 8, h => exact h
          | 11, h => exact h
          | 9, _ => exact trivial
          | 10, _ => exact trivial
          | (_ + 12), _ => exact trivial
        · skip
          refine Inv4.from_cons _ _ _ _ rfl (fun q a w hq hD hJ hF F K hK => ?_) ?_
          · have hz : a.tmps.size = 70 := hF.size
            have e1 : a.tmps[1]? = some (.pointer (some ⟨W.heap.size, 0, none⟩)) := Inv2.some_slot (by rw [hz]; exact Nat.le_of_ble_eq_true rfl) (hF.slot 1 (by kernel_rfl))
            clear F hF
            have hJ1 := hJ
            obtain ⟨⟨⟨c0, c1, c2, c3, _⟩, _, _⟩, _, _⟩ := hJ1
            clear hz
            go_simp
            exact hK (.pointer (some ⟨W.heap.size, 0, none⟩)) _ rfl ((.inl (Below.refl _ _))) (hJ.quiet (Below.refl _ _) rfl rfl (by decide))
          refine Inv4.from_cons _ _ _ _ rfl (fun q a w hq hD hJ hF F K hK => ?_) ?_
          · have hz : a.tmps.size = 70 := hF.size
            have e45 : a.tmps[45]? = some (.pointer (some ⟨W.heap.size, 0, none⟩)) := Inv2.some_slot (by rw [hz]; exact Nat.le_of_ble_eq_true rfl) ((F 0 (by kernel_rfl)).2 45 rfl)
            clear F hF
            have hJ1 := hJ
            obtain ⟨⟨⟨c0, c1, c2, c3, _⟩, _, _⟩, _, _⟩ := hJ1
            clear hz
            go_simp
            exact hK (.bool n.leaf) _ rfl ((.inl (Below.refl _ _))) (hJ.quiet (Below.refl _ _) rfl rfl (by decide))
          refine Inv4.from_cons _ _ _ _ rfl (fun q a w hq hD hJ hF F K hK => ?_) ?_
          · have hz : a.tmps.size = 70 := hF.size
            clear F hF
            have hJ1 := hJ
            obtain ⟨⟨⟨c0, c1, c2, c3, _⟩, _, _⟩, _, _⟩ := hJ1
            clear hz
            go_simp
            exact hK _ _ ⟨_, rfl⟩ (.inl (al _ _)) (hJ.quiet (al _ _) rfl rfl (by decide))
          refine Inv4.from_cons _ _ _ _ rfl (fun q a w hq hD hJ hF F K hK => ?_) ?_
          · have hz : a.tmps.size = 70 := hF.size
            have e3 : a.tmps[3]? = some (.slice A m c) := Inv2.some_slot (by rw [hz]; exact Nat.le_of_ble_eq_true rfl) (hF.slot 3 (by kernel_rfl))
            clear F hF
            have hJ1 := hJ
            obtain ⟨⟨⟨c0, c1, c2, c3, _⟩, _, _⟩, _, _⟩ := hJ1
            clear hz
            go_simp
            exact hK (.slice A m c) _ rfl ((.inl (Below.refl _ _))) (hJ.quiet (Below.refl _ _) rfl rfl (by decide))
          refine Inv4.from_cons _ _ _ _ rfl (fun q a w hq hD hJ hF F K hK => ?_) ?_
          · have hz : a.tmps.size = 70 := hF.size
            obtain ⟨x47, e47, f2⟩ : ∃ x, a.tmps[47]? = some x ∧ Emp x w := ⟨_, Inv2.some_slot (by rw [hz]; exact Nat.le_of_ble_eq_true rfl) rfl, (F 2 (by kernel_rfl)).2 47 rfl⟩
            have e48 : a.tmps[48]? = some (.slice A m c) := Inv2.some_slot (by rw [hz]; exact Nat.le_of_ble_eq_true rfl) ((F 3 (by kernel_rfl)).2 48 rfl)
            clear F hF
            have hJ1 := hJ
            obtain ⟨⟨⟨c0, c1, c2, c3, _⟩, _, _⟩, _, _⟩ := hJ1
            clear hz
            obtain ⟨g7, rfl⟩ := f2
            have hs3 := hJ.2.1
            obtain ⟨A0, m0, cc0, q1, q2, q3, q4⟩ := hs3
            injection q1 with q1 q5 q6
            subst q1 q5 q6
            obtain ⟨A', c', w', hrun, hsl, hbl⟩ := append_new (P := Try.prog) 22 el_strs g7 (c2 := c) q2 q4 (strs_1 _) (by rw [q2, strs_len]; have := HCS.out.1; simp only [maxLen]; omega) (by rw [q2, strs_len]; have := HCS.out.1; omega)
            refine NodeEnt.step_append_d (d := 49) rfl rfl (.tmp 47) (.tmp 48) 22 22 rfl (vs := .slice (some ⟨g7, 0, none⟩) 0 0) (vx := .slice A m c) (by simp [Act.eval, e47]) (by simp [Act.eval, e48]) hrun ?_
            exact hK _ _ hsl (.inl hbl) (hJ.quiet hbl rfl rfl (by decide))
          refine Inv4.from_cons _ _ _ _ rfl (fun q a w hq hD hJ hF F K hK => ?_) ?_
          · have hz : a.tmps.size = 70 := hF.size
            have e46 : a.tmps[46]? = some (.bool n.leaf) := Inv2.some_slot (by rw [hz]; exact Nat.le_of_ble_eq_true rfl) ((F 1 (by kernel_rfl)).2 46 rfl)
            obtain ⟨x49, e49, f4⟩ : ∃ x, a.tmps[49]? = some x ∧ SlA (strs (cells n)) x w := ⟨_, Inv2.some_slot (by rw [hz]; exact Nat.le_of_ble_eq_true rfl) rfl, (F 4 (by kernel_rfl)).2 49 rfl⟩
            clear F hF
            have hJ1 := hJ
            obtain ⟨⟨⟨c0, c1, c2, c3, _⟩, _, _⟩, _, _⟩ := hJ1
            clear hz
            obtain ⟨A0, m0, cc0, rfl, q2, q3, q4⟩ := f4
            rw [strs_len] at q2
            have hh := of_any n.leaf w A0 m0 cc0 (cells n) q2 q4 (by omega) HCS.out.1 HCS.out.2
            clear q2 q3 q4
            go_simp
            (with_reducible refine hh.mono ?_)
            rintro e w' ⟨hb, hcase⟩
            obtain ⟨v, rfl, hv⟩ : ∃ v, e = .returned v ∧ Tn n v w' := by
              rcases hcase with ⟨v, n', rfl, hN, hlf, hcc, hok', hsm'⟩ | ⟨_, hno⟩
              · obtain rfl : n' = n := cells_inj (NodeOf2.Ok.wd hok') (NodeOf2.Ok.wd HOK.out) hlf hcc
                obtain ⟨j, rfl, lj⟩ := hN.nv
                exact ⟨_, rfl, j, rfl, lj⟩
              · exact absurd rfl (hno n rfl HOK.out)
            clear hcase
            go_simp
            exact hK _ _ hv (.inl hb) (hJ.quiet hb rfl rfl (by decide))
          refine Inv4.from_cons _ _ _ _ rfl (fun q a w hq hD hJ hF F K hK => ?_) ?_
          · have hz : a.tmps.size = 70 := hF.size
            obtain ⟨x50, e50, f5⟩ : ∃ x, a.tmps[50]? = some x ∧ Tn n x w := ⟨_, Inv2.some_slot (by rw [hz]; exact Nat.le_of_ble_eq_true rfl) rfl, (F 5 (by kernel_rfl)).2 50 rfl⟩
            clear F hF
            have hJ1 := hJ
            obtain ⟨⟨⟨c0, c1, c2, c3, _⟩, _, _⟩, _, _⟩ := hJ1
            clear hz
            obtain ⟨j, rfl, lj⟩ := f5
            go_simp
            exact hK _ _ ⟨j, rfl, lj⟩ (.inl (Below.refl _ _)) (hJ.quiet (Below.refl _ _) rfl rfl (by decide))
          refine Inv4.from_cons _ _ _ _ rfl (fun q a w hq hD hJ hF F K hK => ?_) ?_
          · have hz : a.tmps.size = 70 := hF.size
            obtain ⟨x44, e44, f6⟩ : ∃ x, a.tmps[44]? = some x ∧ Tn n x w := ⟨_, Inv2.some_slot (by rw [hz]; exact Nat.le_of_ble_eq_true rfl) rfl, (F 6 (by kernel_rfl)).2 44 rfl⟩
            clear F hF
            have hJ1 := hJ
            obtain ⟨⟨⟨c0, c1, c2, c3, _⟩, _, _⟩, _, _⟩ := hJ1
            clear hz
            obtain ⟨j, rfl, lj⟩ := f6
            go_simp
            exact hK _ _ ⟨j, rfl, lj⟩ (.inl (Below.refl _ _)) (hJ.quiet (Below.refl _ _) rfl rfl (by decide))
          refine Inv4.from_cons _ _ _ _ rfl (fun q a w hq hD hJ hF F K hK => ?_) ?_
          · have hz : a.tmps.size = 70 := hF.size
            obtain ⟨x44, e44, f6⟩ : ∃ x, a.tmps[44]? = some x ∧ Tn n x w := ⟨_, Inv2.some_slot (by rw [hz]; exact Nat.le_of_ble_eq_true rfl) rfl, (F 6 (by kernel_rfl)).2 44 rfl⟩
            clear F hF
            have hJ1 := hJ
            obtain ⟨⟨⟨c0, c1, c2, c3, _⟩, _, _⟩, _, _⟩ := hJ1
            clear hz
            obtain ⟨j, rfl, lj⟩ := f6
            go_simp
            exact hK _ _ rfl (.inl (Below.refl _ _)) (hJ.quiet (Below.refl _ _) rfl rfl (by decide))
          refine Inv4.from_cons _ _ _ _ rfl (fun q a w hq hD hJ hF F K hK => ?_) ?_
          · have hz : a.tmps.size = 70 := hF.size
            clear F hF
            have hJ1 := hJ
            obtain ⟨⟨⟨c0, c1, c2, c3, _⟩, _, _⟩, _, _⟩ := hJ1
            have h10 : q 10 = false := hD.no hq (by kernel_rfl)
            have hs6 : 6 < a.tmps.size := by rw [hz]; exact Nat.le_of_ble_eq_true rfl
            clear hz
            go_simp
            exact hK _ _ trivial (.inl (al _ _)) (hJ.nine hs6 h10)
          refine Inv4.from_cons _ _ _ _ rfl (fun q a w hq hD hJ hF F K hK => ?_) ?_
          · have hz : a.tmps.size = 70 := hF.size
            have e45 : a.tmps[45]? = some (.pointer (some ⟨W.heap.size, 0, none⟩)) := Inv2.some_slot (by rw [hz]; exact Nat.le_of_ble_eq_true rfl) ((F 0 (by kernel_rfl)).2 45 rfl)
            have e46 : a.tmps[46]? = some (.bool n.leaf) := Inv2.some_slot (by rw [hz]; exact Nat.le_of_ble_eq_true rfl) ((F 1 (by kernel_rfl)).2 46 rfl)
            obtain ⟨x47, e47, f2⟩ : ∃ x, a.tmps[47]? = some x ∧ Emp x w := ⟨_, Inv2.some_slot (by rw [hz]; exact Nat.le_of_ble_eq_true rfl) rfl, (F 2 (by kernel_rfl)).2 47 rfl⟩
            have e48 : a.tmps[48]? = some (.slice A m c) := Inv2.some_slot (by rw [hz]; exact Nat.le_of_ble_eq_true rfl) ((F 3 (by kernel_rfl)).2 48 rfl)
            obtain ⟨x49, e49, f4⟩ : ∃ x, a.tmps[49]? = some x ∧ SlA (strs (cells n)) x w := ⟨_, Inv2.some_slot (by rw [hz]; exact Nat.le_of_ble_eq_true rfl) rfl, (F 4 (by kernel_rfl)).2 49 rfl⟩
            obtain ⟨x50, e50, f5⟩ : ∃ x, a.tmps[50]? = some x ∧ Tn n x w := ⟨_, Inv2.some_slot (by rw [hz]; exact Nat.le_of_ble_eq_true rfl) rfl, (F 5 (by kernel_rfl)).2 50 rfl⟩
            obtain ⟨x44, e44, f6⟩ : ∃ x, a.tmps[44]? = some x ∧ Tn n x w := ⟨_, Inv2.some_slot (by rw [hz]; exact Nat.le_of_ble_eq_true rfl) rfl, (F 6 (by kernel_rfl)).2 44 rfl⟩
            obtain ⟨x51, e51, f7⟩ : ∃ x, a.tmps[51]? = some x ∧ Nv n x w := ⟨_, Inv2.some_slot (by rw [hz]; exact Nat.le_of_ble_eq_true rfl) rfl, (F 7 (by kernel_rfl)).2 51 rfl⟩
            have b9 := (F 9 (by kernel_rfl)).1
            clear F hF
            have hJ1 := hJ
            obtain ⟨⟨⟨c0, c1, c2, c3, _⟩, _, _⟩, _, _⟩ := hJ1
            obtain ⟨j, rfl, lj⟩ := f7
            obtain ⟨g9, hg9, hat⟩ := hJ.block b9 hq
            have e6 : a.tmps[6]? = some (.pointer (some ⟨g9, 0, none⟩)) := Inv2.some_slot (by rw [hz]; exact Nat.le_of_ble_eq_true rfl) hg9
            clear hz
            have hn := hJ.ten b9 hg9 hat lj
            have hR : Rl w (NodeBox.w4 w g9 (.bool n.leaf) (.slice j.K n.keys.length j.kc) (.slice j.V n.vals.length j.vc) (.slice j.D n.kids.length j.dc)) := .inr ⟨g9, _, _, _, _, _, _, hat, cs_z, rfl⟩
            obtain ⟨z0, z1, z2, z3, y0, y1, y2, y3⟩ := hat.f4
            clear hat c0 c1 c2 c3
            go_simp
            exact hK undef _ trivial hR (hn undef)
          refine Inv4.from_cons _ _ _ _ rfl (fun q a w hq hD hJ hF F K hK => ?_) ?_
          · have hz : a.tmps.size = 70 := hF.size
            have e45 : a.tmps[45]? = some (.pointer (some ⟨W.heap.size, 0, none⟩)) := Inv2.some_slot (by rw [hz]; exact Nat.le_of_ble_eq_true rfl) ((F 0 (by kernel_rfl)).2 45 rfl)
            have e46 : a.tmps[46]? = some (.bool n.leaf) := Inv2.some_slot (by rw [hz]; exact Nat.le_of_ble_eq_true rfl) ((F 1 (by kernel_rfl)).2 46 rfl)
            obtain ⟨x47, e47, f2⟩ : ∃ x, a.tmps[47]? = some x ∧ Emp x w := ⟨_, Inv2.some_slot (by rw [hz]; exact Nat.le_of_ble_eq_true rfl) rfl, (F 2 (by kernel_rfl)).2 47 rfl⟩
            have e48 : a.tmps[48]? = some (.slice A m c) := Inv2.some_slot (by rw [hz]; exact Nat.le_of_ble_eq_true rfl) ((F 3 (by kernel_rfl)).2 48 rfl)
            obtain ⟨x49, e49, f4⟩ : ∃ x, a.tmps[49]? = some x ∧ SlA (strs (cells n)) x w := ⟨_, Inv2.some_slot (by rw [hz]; exact Nat.le_of_ble_eq_true rfl) rfl, (F 4 (by kernel_rfl)).2 49 rfl⟩
            obtain ⟨x50, e50, f5⟩ : ∃ x, a.tmps[50]? = some x ∧ Tn n x w := ⟨_, Inv2.some_slot (by rw [hz]; exact Nat.le_of_ble_eq_true rfl) rfl, (F 5 (by kernel_rfl)).2 50 rfl⟩
            obtain ⟨x44, e44, f6⟩ : ∃ x, a.tmps[44]? = some x ∧ Tn n x w := ⟨_, Inv2.some_slot (by rw [hz]; exact Nat.le_of_ble_eq_true rfl) rfl, (F 6 (by kernel_rfl)).2 44 rfl⟩
            obtain ⟨x51, e51, f7⟩ : ∃ x, a.tmps[51]? = some x ∧ Nv n x w := ⟨_, Inv2.some_slot (by rw [hz]; exact Nat.le_of_ble_eq_true rfl) rfl, (F 7 (by kernel_rfl)).2 51 rfl⟩
            have e52 : a.tmps[52]? = some (.int .i64 0) := Inv2.some_slot (by rw [hz]; exact Nat.le_of_ble_eq_true rfl) ((F 8 (by kernel_rfl)).2 52 rfl)
            clear F hF
            have hJ1 := hJ
            obtain ⟨⟨⟨c0, c1, c2, c3, _⟩, _, _⟩, _, _⟩ := hJ1
            clear hz
            go_simp
            exact hK (.int .i64 0) _ rfl ((.inl (Below.refl _ _))) (hJ.quiet (Below.refl _ _) rfl rfl (by decide))
          exact Inv4.from_end _ _ _ _ (by decide +kernel)
        · intro a w hJ hF F
          obtain ⟨f, hf⟩ : ∃ f : Nat → Value, ∀ i, a.tmps.getD i undef = f i := ⟨_, fun _ => rfl⟩
          obtain ⟨g9, hg9, hlo9, _, h910⟩ := hJ.2.2 (by decide +kernel)
          obtain ⟨j, hat, lj⟩ := h910 (by decide +kernel)
          have hB := hJ.1
          have hS3 := hJ.2.1
          clear hJ h910
          have g1 : f 1 = (.pointer (some ⟨W.heap.size, 0, none⟩)) := (hf 1).symm.trans (hF.slot 1 (by kernel_rfl))
          have g3 : f 3 = (.slice A m c) := (hf 3).symm.trans (hF.slot 3 (by kernel_rfl))
          have g4 : f 4 = (.int .i64 0) := (hf 4).symm.trans (hF.slot 4 (by kernel_rfl))
          have g5 : f 5 = (.int .i64 0) := (hf 5).symm.trans (hF.slot 5 (by kernel_rfl))
          have g45 : f 45 = (.pointer (some ⟨W.heap.size, 0, none⟩)) := (hf 45).symm.trans (F 0 45 rfl)
          have g46 : f 46 = (.bool n.leaf) := (hf 46).symm.trans (F 1 46 rfl)
          obtain ⟨x47, g47⟩ : ∃ x, f 47 = x := ⟨_, rfl⟩
          have f2 : Emp x47 w := by rw [← g47, ← hf 47]; exact F 2 47 rfl
          have g48 : f 48 = (.slice A m c) := (hf 48).symm.trans (F 3 48 rfl)
          obtain ⟨x49, g49⟩ : ∃ x, f 49 = x := ⟨_, rfl⟩
          have f4 : SlA (strs (cells n)) x49 w := by rw [← g49, ← hf 49]; exact F 4 49 rfl
          obtain ⟨x50, g50⟩ : ∃ x, f 50 = x := ⟨_, rfl⟩
          have f5 : Tn n x50 w := by rw [← g50, ← hf 50]; exact F 5 50 rfl
          obtain ⟨x44, g44⟩ : ∃ x, f 44 = x := ⟨_, rfl⟩
          have f6 : Tn n x44 w := by rw [← g44, ← hf 44]; exact F 6 44 rfl
          obtain ⟨x51, g51⟩ : ∃ x, f 51 = x := ⟨_, rfl⟩
          have f7 : Nv n x51 w := by rw [← g51, ← hf 51]; exact F 7 51 rfl
          have g52 : f 52 = (.int .i64 0) := (hf 52).symm.trans (F 8 52 rfl)
          have g7 : f 7 = (.int .i64 0) := (hf 7).symm.trans (F 11 7 rfl)
          have g6 : f 6 = (.pointer (some ⟨g9, 0, none⟩)) := (hf 6).symm.trans hg9
          have ha := Frames.frame (show a.tmps.size = 70 from hF.size) hF.defers hf (l := [f 0, f 1, f 2, f 3, f 4, f 5, f 6, f 7, f 8, f 9, f 10, f 11, f 12, f 13, f 14, f 15, f 16, f 17, f 18, f 19, f 20, f 21, f 22, f 23, f 24, f 25, f 26, f 27, f 28, f 29, f 30, f 31, f 32, f 33, f 34, f 35, f 36, f 37, f 38, f 39, f 40, f 41, f 42, f 43, f 44, f 45, f 46, f 47, f 48, f 49, f 50, f 51, f 52, f 53, f 54, f 55, f 56, f 57, f 58, f 59, f 60, f 61, f 62, f 63, f 64, f 65, f 66, f 67, f 68, f 69]) rfl
          simp only [g1, g3, g4, g5, g45, g46, g47, g48, g49, g50, g44, g51, g52, g7, g6] at ha
          clear F hF hf g1 g3 g4 g5 g45 g46 g47 g48 g49 g50 g44 g51 g52 g7 g6
          subst ha
          obtain ⟨p0, p1, p2, p3, _⟩ := hat.f4
          have hB1 := hB.1
          obtain ⟨c0, c1, c2, c3, _⟩ := hB1
          have hrc := rcells_any w n h hB.2.1 HSM.out HOK.out
          have HAT := Lib.hid (fun (w' : World) (hb : Below w.heap.size w w') => (bx_at hat).below hb)
          clear hat
          go_wp2_with fail
          refine hrc.mono ?_
          rintro e w7 ⟨A7, m7, c7, rfl, hA7, b7⟩
          clear hrc c0 c1 c2 c3 p0 p1 p2 p3
          have hB7 := hB.below b7
          have hS7 := hS3.below b7
          have lj7 := lj.below b7
          have hx7 := HAT.out w7 b7
          clear hB hS3 lj b7 HAT
          obtain ⟨A0, m0, cc0, q1, q2, q3, q4⟩ := hS7
          injection q1 with q1 q5 q6
          subst q1 q5 q6
          obtain ⟨A1, m1, cc1, q1, r2, r3, r4, _⟩ := hA7
          injection q1 with q1 q5 q6
          subst q1 q5 q6
          rw [strs_len] at q2 r2
          have hsa := Same_b A A7 c c7 m m7 (cells n) (cells n) q2 r2 q4 r4 (by have := HCS.out.1; simp only [maxLen]; omega) (by have := HCS.out.1; simp only [maxLen]; omega)
          rw [decide_eq_true rfl] at hsa
          clear q2 q3 q4 r2 r3 r4
          go_wp2_with fail
          refine hsa.mono ?_
          rintro e w8 ⟨rfl, b8⟩
          clear hsa
          have hB8 := hB7.below b8
          have lj8 := lj7.below b8
          have hx8 := hx7.below b8
          clear hB7 lj7 hx7 b8
          obtain ⟨c0, c1, c2, c3, _⟩ := hB8.1
          obtain ⟨p0, p1, p2, p3, _⟩ := hx8
          have hss := rsame_any w8 n n h j hB8.2.1 lj8 HSM.out.k HSM.out.k HSM.out.v HSM.out.v HSM.out.d true ⟨fun _ => rfl, fun _ => rfl⟩
          go_wp2_with fail
          refine hss.mono ?_
          rintro e w9 ⟨rfl, b9⟩
          have hB9 := hB8.below b9
          clear hss
          go_wp2_with fail
          go_ret
          exact ⟨rfl, hB9.2.2⟩
end Go.Proofs.Ytpcpfcllgadghaa.NodeCellsL
