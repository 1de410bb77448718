/- The walk of NodeSplits. -/
import Derived.Test.YtpcpfcllgadghaaNodeRooms
import Derived.Test.YtpcpfcllgadghaaNodeRefCheck
import Derived.Test.YtpcpfcllgadghaaNodeSplit3
import Derived.Test.YtpcpfcllgadghaaNodeJoin
namespace Go.Proofs.Ytpcpfcllgadghaa.NodeSplits
open Go.RowKit Base NodePlain NodeRead NodeSlice NodeCheck NodeBox NodeEnt NodeCells NodeRd NodeOf2 NodeOf3 NodeFind NodeAwake NodePlumb NodeRooms NodeRefCheck NodeSplit NodeSplit2 NodeSplit3 NodeJoin NodeSame

/-- the world behind two nodes in new blocks -/
def two (w : World) (na : Nd) (ha : Hd) (nb : Nd) (hb : Hd) : World := (w.alloc (.cells #[.bool na.leaf, .slice ha.K na.keys.length ha.kc, .slice ha.V na.vals.length ha.vc, .slice ha.D na.kids.length ha.dc] 25)).alloc (.cells #[.bool nb.leaf, .slice hb.K nb.keys.length hb.kc, .slice hb.V nb.vals.length hb.vc, .slice hb.D nb.kids.length hb.dc] 25)
theorem two_below (w : World) (na : Nd) (ha : Hd) (nb : Nd) (hb : Hd) : Below w.heap.size w (two w na ha nb hb) := Below.step (box_below w na ha) (box_below _ nb hb)
theorem two_boxes {W v4 : World} {n na nb : Nd} {h ha hb : Hd} (s : Begun W n h v4) (la : Lay v4 na ha) (lb : Lay v4 nb hb) :
    Bx (two v4 na ha nb hb) v4.heap.size na ha ∧ Bx (two v4 na ha nb hb) (v4.heap.size + 1) nb hb ∧ Lay (two v4 na ha nb hb) na ha ∧ Lay (two v4 na ha nb hb) nb hb ∧ Begun W n h (two v4 na ha nb hb) := by
  have hb2 := two_below v4 na ha nb hb
  have s1 : (box v4 na ha).heap.size = v4.heap.size + 1 := by simp
  have x2 := bx_new (box v4 na ha) nb hb
  rw [s1] at x2
  exact ⟨(bx_new v4 na ha).below (box_below _ nb hb), x2, la.below hb2, lb.below hb2, s.below hb2⟩
set_option maxRecDepth 100000 in
set_option maxHeartbeats 12800000 in
theorem NodeSplits_walk (n : Nd) (h : Hd) (W : World) (hL : Lay W n h) (hk : n.keys.length ≤ maxLen) (hv : n.vals.length ≤ maxLen) :
    Calls Try.prog 7 #[nv n h] W (Law W) := by
  obtain ⟨fb, hfb⟩ := pick_b (Few n)
  obtain ⟨er, her⟩ := chk_any n
  have HER := Lib.hid her
  have HCW := Lib.hid (fun w' (s : Begun W n h w') (hsm : Small n) => rcheck_any w' n h s.2.1 hsm er her)
  have HS := Lib.hid (begunL hL)
  have HFW := Lib.hid (fun w' (s : Begun W n h w') => NodeRoom.few_any w' n h s.2.1 hk hv fb hfb)
  clear hk hv hL her
  go_enter Try.func7, Try.ntmps7
  go_wp2_with fail
  refine (awake_any _).mono ?_
  rintro e w1 ⟨rfl, b1⟩
  have s1 := HS.out w1 b1
  clear HS b1
  obtain ⟨c0, c1, c2, c3, _⟩ := s1.1
  go_wp2_with fail
  refine (HFW.out w1 s1).mono ?_
  rintro e w2 ⟨rfl, b2⟩
  have s2 := s1.below b2
  clear s1 b2 HFW c0 c1 c2 c3
  cases fb with
  | false =>
    clear hfb
    go_wp2_with fail
    refine (awake_any w2).mono ?_
    rintro e w9 ⟨rfl, b9⟩
    have s9 := s2.below b9
    go_wp2_with fail
    go_ret
    exact ⟨rfl, s9.2.2⟩
  | true =>
    have hfew := hfb.1 rfl
    have hsm : Small n := hfew.small
    clear hfb
    obtain ⟨c0, c1, c2, c3, _⟩ := s2.1
    go_wp2_with fail
    refine (HCW.out w2 s2 hsm).mono ?_
    rintro e w3 ⟨rfl, b3⟩
    have s3 := s2.below b3
    clear s2 b3 HCW c0 c1 c2 c3
    by_cases he0 : er = 0
    · subst he0
      have hok := (chk_ok HER.out).1 rfl
      clear HER
      by_cases htwo : n.keys.length < 2
      · skip
        have hsp := split_few w3 n h s3.2.1 hsm htwo
        have hi2 : ((n.keys.length : Int) < 2) := by omega
        have HSM := Lib.hid hsm
        clear hok hsm hfew htwo
        obtain ⟨c0, c1, c2, c3, _⟩ := s3.1
        unfold nv at hsp
        go_wp2_with fail
        refine hsp.mono ?_
        rintro e v4 ⟨va, vb, rfl, hva, hvb, b4⟩
        have s4 := s3.below b4
        clear hsp s3 b4 c0 c1 c2 c3
        obtain ⟨na, hna⟩ : ∃ m : Nd, m = n := ⟨_, rfl⟩
        obtain ⟨nb, hnb⟩ : ∃ m : Nd, m = zn := ⟨_, rfl⟩
        rw [← hna] at hva
        rw [← hnb] at hvb
        have HNA := Lib.hid hna
        have HNB := Lib.hid hnb
        clear hna hnb
        obtain ⟨ha, hva', la⟩ := hva
        obtain ⟨hb', hvb', lb⟩ := hvb
        subst hva' hvb'
        have tb := two_boxes s4 la lb
        obtain ⟨bxa, bxb, la6, lb6, s6⟩ := tb
        obtain ⟨v6, hv6⟩ : ∃ v, v = two v4 na ha nb hb' := ⟨_, rfl⟩
        rw [← hv6] at bxa bxb la6 lb6 s6
        unfold two at hv6
        have HV6 := Lib.hid hv6
        clear hv6 la lb s4
        obtain ⟨c0, c1, c2, c3, _⟩ := s6.1
        obtain ⟨d0, d1, d2, d3, _⟩ := bxa
        rw [HV6.out] at c0 c1 c2 c3 d0 d1 d2 d3
        have hsa := rsame_any v6 na n ha h la6 s6.2.1 (by have := HSM.out.k; rw [HNA.out]; omega) (by have := HSM.out.k; omega) (by have := HSM.out.v; rw [HNA.out]; omega) (by have := HSM.out.v; omega) (by have := HSM.out.d; rw [HNA.out]; omega) true ⟨fun _ => HNA.out, fun _ => rfl⟩
        go_wp2_with fail
        rw [← HV6.out]
        clear HV6 c0 c1 c2 c3 d0 d1 d2 d3
        generalize v4.heap.size = g4 at *
        refine hsa.mono ?_
        rintro e v7 ⟨rfl, b7⟩
        have s7 := s6.below b7
        have bxb7 := bxb.below b7
        have lb7 := lb6.below b7
        clear hsa s6 bxb lb6 la6 b7
        obtain ⟨c0, c1, c2, c3, _⟩ := bxb7
        have hsb := rsame_any v7 nb zn hb' ⟨none, 0, none, 0, none, 0⟩ lb7 (lay_zn _) (by rw [HNB.out]; simp) (by simp) (by rw [HNB.out]; simp) (by simp) (by rw [HNB.out]; simp) true ⟨fun _ => HNB.out, fun _ => rfl⟩
        unfold nv at hsb
        simp only [List.length_nil] at hsb
        go_wp2_with fail
        refine hsb.mono ?_
        rintro e v8 ⟨rfl, b8⟩
        have s8 := s7.below b8
        clear hsb s7 lb7 b8 c0 c1 c2 c3
        go_wp2_with fail
        go_ret
        exact ⟨rfl, s8.2.2⟩
      · cases hleaf : n.leaf with
        | true =>
          have h2 : 2 ≤ n.keys.length := by omega
          have hq : n.keys.length / 2 < n.keys.length := by omega
          have hsp := split_true w3 n h s3.2.1 hsm hleaf (by omega)
          have HN := Lib.hid (show n.keys.length ≤ 100 from hfew.1)
          have hi2 : ((n.keys.length : Int) < 2) = False := by simp; omega
          have hwr : wrap64 ((n.keys.length : Int) / 2) = (n.keys.length : Int) / 2 := by have := hsm.k; unfold wrap64; omega
          have hwr2 : IntKind.i64.wrap ((n.keys.length : Int) / 2) = (n.keys.length : Int) / 2 := IntWalk.i64_in _ (by have := hsm.k; omega)
          obtain ⟨c0, c1, c2, c3, _⟩ := s3.1
          rw [hleaf] at c0
          unfold nv at hsp
          rw [hleaf] at hsp
          go_wp2_with fail
          refine hsp.mono ?_
          rintro e v4 ⟨va, vb, rfl, hva, hvb, b4⟩
          have s4 := s3.below b4
          clear hsp s3 b4 c0 c1 c2 c3
          obtain ⟨na, hna⟩ : ∃ m : Nd, m = ⟨true, n.keys.take (n.keys.length / 2), n.vals.take (n.keys.length / 2), []⟩ := ⟨_, rfl⟩
          obtain ⟨nb, hnb⟩ : ∃ m : Nd, m = ⟨true, n.keys.drop (n.keys.length / 2), n.vals.drop (n.keys.length / 2), []⟩ := ⟨_, rfl⟩
          rw [← hna] at hva
          rw [← hnb] at hvb
          have HOA := Lib.hid (show Ok na by rw [hna]; exact ok_lt hok hleaf _)
          have HOB := Lib.hid (show Ok nb by rw [hnb]; exact ok_ld hok hleaf _)
          have HSA := Lib.hid (show Small na by rw [hna]; exact small_part hsm (List.take_sublist _ _) (List.take_sublist _ _) (List.nil_sublist _))
          have HSB := Lib.hid (show Small nb by rw [hnb]; exact small_part hsm (List.drop_sublist _ _) (List.drop_sublist _ _) (List.nil_sublist _))
          have HSN := Lib.hid hsm
          have HLA := Lib.hid (show na.leaf = true by rw [hna])
          have HLB := Lib.hid (show nb.leaf = true by rw [hnb])
          have HKA := Lib.hid (show na.keys.length = n.keys.length / 2 by rw [hna, List.length_take]; omega)
          have HKB := Lib.hid (show nb.keys.length = n.keys.length - n.keys.length / 2 by rw [hnb, List.length_drop])
          have hjn : (⟨true, na.keys ++ nb.keys, na.vals ++ nb.vals, []⟩ : Nd) = n := by rw [hna, hnb]; exact joined_l hok hleaf _
          obtain ⟨ad, hKA', hbk, hck⟩ := strs_get s4.2.1.k (n.keys.length / 2) hq
          have HKAD := Lib.hid hKA'
          have HCK := Lib.hid (fun (w' : World) (hw : Below v4.heap.size v4 w') => (hw.cell (p := ad.add (n.keys.length / 2)) (by rw [blk_add]; exact hbk)).trans hck)
          generalize n.keys[n.keys.length / 2] = key at *
          have HJN := Lib.hid hjn
          have HH2 := Lib.hid h2
          have HLF := Lib.hid hleaf
          have HJN := Lib.hid hjn
          have HLF := Lib.hid hleaf
          clear hjn hna hnb hok hsm hfew htwo hKA' hbk hck h2 hq
          obtain ⟨ha, hva', la⟩ := hva
          obtain ⟨hb', hvb', lb⟩ := hvb
          subst hva' hvb'
          have tb := two_boxes s4 la lb
          obtain ⟨bxa, bxb, la6, lb6, s6⟩ := tb
          obtain ⟨v6, hv6⟩ : ∃ v, v = two v4 na ha nb hb' := ⟨_, rfl⟩
          rw [← hv6] at bxa bxb la6 lb6 s6
          have hb6 : Below v4.heap.size v4 v6 := by rw [hv6]; exact two_below v4 na ha nb hb'
          unfold two at hv6
          have HV6 := Lib.hid hv6
          clear hv6 la lb s4
          obtain ⟨c0, c1, c2, c3, _⟩ := s6.1
          rw [hleaf] at c0
          rw [HV6.out] at c0 c1 c2 c3
          go_wp2_with fail
          rw [← HV6.out]
          clear HV6 c0 c1 c2 c3
          generalize hg4 : v4.heap.size = g4 at *
          clear hleaf hi2 hwr hwr2
          have hJ0 : (fun w' : World => Begun W n h w' ∧ Bx w' g4 na ha ∧ Lay w' na ha ∧ Bx w' (g4 + 1) nb hb' ∧ Lay w' nb hb' ∧ Below g4 v4 w') (World.drew v6) := ⟨s6.below (Below.refl _ _).drew, bxa.below (Below.refl _ _).drew, la6.below (Below.refl _ _).drew, bxb.below (Below.refl _ _).drew, lb6.below (Below.refl _ _).drew, hb6.drew⟩
          clear s6 bxa la6 bxb lb6 hb6
          refine wp_region_any (by kernel_rfl) ?_
          change wpAny _ _ _ _ _ _ _ (World.drew _)
          refine Inv.inv_any (fun (i : Nat) (v : Value) (w : World) => match i with | 0 => v = nv na ha | 1 => v = .int .i64 0 | 2 => v = .bool true | 3 => v = .bool true | 4 => v = nv nb hb' | 5 => v = .int .i64 0 | 6 => v = .bool true | 7 => v = .bool true | 8 => v = .bool true | 9 => v = nv na ha | 10 => v = .string key | 11 => v = nv nb hb' | 12 => Nv n v w | 13 => v = nv n h | 14 => v = .bool true | 15 => v = .bool true | 16 => v = .bool true | 17 => v = .pointer (some ⟨g4, 1, none⟩) | 18 => v = .slice ha.K na.keys.length ha.kc | 19 => v = .int .i64 (na.keys.length : Int) | 20 => v = .int .i64 ((n.keys.length : Int) / 2) | 21 => v = .bool true | 22 => v = .bool true | 23 => v = .bool true | 24 => v = .pointer (some ⟨g4 + 1, 1, none⟩) | 25 => v = .slice hb'.K nb.keys.length hb'.kc | 26 => v = .int .i64 (nb.keys.length : Int) | 27 => v = .pointer (some ⟨W.heap.size, 1, none⟩) | 28 => v = .slice h.K n.keys.length h.kc | 29 => v = .int .i64 (n.keys.length : Int) | 30 => v = .int .i64 ((n.keys.length : Int) / 2) | 31 => v = .int .i64 ((n.keys.length : Int) - (n.keys.length : Int) / 2) | 32 => v = .int .i64 0 | 33 => v = .int .i64 ((n.keys.length : Int) - (n.keys.length : Int) / 2) | 34 => v = .bool true | 35 => v = .bool true | 36 => v = .bool true | 37 => v = .string key | 38 => v = .pointer (some ⟨W.heap.size, 1, none⟩) | 39 => v = .slice (some ad) n.keys.length h.kc | 40 => v = .int .i64 ((n.keys.length : Int) / 2) | 41 => v = .pointer (some (ad.add (n.keys.length / 2))) | 42 => v = .string key | 43 => v = .bool true | 44 => v = .bool true | _ => True) (fun w' : World => Begun W n h w' ∧ Bx w' g4 na ha ∧ Lay w' na ha ∧ Bx w' (g4 + 1) nb hb' ∧ Lay w' nb hb' ∧ Below g4 v4 w') _ 45 95 rfl rfl rfl (by kernel_rfl) (by kernel_rfl) hJ0 ?_ ?_ ?_ ?_
          · intro j v w w' h hb
            match j, h with
            | 0, h => exact h
            | 1, h => exact h
            | 2, h => exact h
            | 3, h => exact h
            | 4, h => exact h
            | 5, h => exact h
            | 6, h => exact h
            | 7, h => exact h
            | 8, h => exact h
            | 9, h => exact h
            | 10, h => exact h
            | 11, h => exact h
            | 12, h => exact Nv.below h hb
            | 13, h => exact h
            | 14, h => exact h
            | 15, h => exact h
            | 16, h => exact h
            | 17, h => exact h
            | 18, h => exact h
            | 19, h => exact h
            | 20, h => exact h
            | 21, h => exact h
            | 22, h => exact h
            | 23, h => exact h
            | 24, h => exact h
            | 25, h => exact h
            | 26, h => exact h
            | 27, h => exact h
            | 28, h => exact h
            | 29, h => exact h
            | 30, h => exact h
            | 31, h => exact h
            | 32, h => exact h
            | 33, h => exact h
            | 34, h => exact h
            | 35, h => exact h
            | 36, h => exact h
            | 37, h => exact h
            | 38, h => exact h
            | 39, h => exact h
            | 40, h => exact h
            | 41, h => exact h
            | 42, h => exact h
            | 43, h => exact h
            | 44, h => exact h
            | 45, _ => exact trivial
            | (_ + 46), _ => exact trivial
          · skip
            refine Inv.from_cons _ _ _ _ rfl (fun _ a w hJ hF F K hK => ?_) ?_
            · have hz : a.tmps.size = 95 := hF.size
              have e3 : a.tmps[3]? = some (.pointer (some ⟨g4, 0, none⟩)) := Inv2.some_slot (by rw [hz]; exact Nat.le_of_ble_eq_true rfl) (hF.slot 3 (by kernel_rfl))
              clear F hF hz
              have hJ1 := hJ
              obtain ⟨⟨⟨c0, c1, c2, c3, _⟩, _, _⟩, ⟨d0, d1, d2, d3, _⟩, _, ⟨p0, p1, p2, p3, _⟩, _, _⟩ := hJ1
              go_simp
              exact hK (nv na ha) _ hJ (Below.refl _ _) rfl
            refine Inv.from_cons _ _ _ _ rfl (fun _ a w hJ hF F K hK => ?_) ?_
            · have hz : a.tmps.size = 95 := hF.size
              have e50 : a.tmps[50]? = some (nv na ha) := Inv2.some_slot (by rw [hz]; exact Nat.le_of_ble_eq_true rfl) (F 0 (by kernel_rfl) 50 rfl)
              clear F hF hz
              have hJ1 := hJ
              obtain ⟨⟨⟨c0, c1, c2, c3, _⟩, _, _⟩, ⟨d0, d1, d2, d3, _⟩, _, ⟨p0, p1, p2, p3, _⟩, _, _⟩ := hJ1
              have hh := rcheck_any w na ha hJ.2.2.1 HSA.out 0 (.inr (.inr ⟨HOA.out.1, HOA.out.2, rfl⟩))
              go_simp
              (with_reducible refine hh.mono ?_)
              rintro e w' ⟨rfl, hb⟩
              go_simp
              exact hK _ _ ⟨hJ.1.below hb, hJ.2.1.below hb, hJ.2.2.1.below hb, hJ.2.2.2.1.below hb, hJ.2.2.2.2.1.below hb, bstep hJ.2.2.2.2.2 (Nat.le_of_lt hJ.2.1.lt) hb⟩ hb rfl
            refine Inv.from_cons _ _ _ _ rfl (fun _ a w hJ hF F K hK => ?_) ?_
            · have hz : a.tmps.size = 95 := hF.size
              have e51 : a.tmps[51]? = some (.int .i64 0) := Inv2.some_slot (by rw [hz]; exact Nat.le_of_ble_eq_true rfl) (F 1 (by kernel_rfl) 51 rfl)
              clear F hF hz
              have hJ1 := hJ
              obtain ⟨⟨⟨c0, c1, c2, c3, _⟩, _, _⟩, ⟨d0, d1, d2, d3, _⟩, _, ⟨p0, p1, p2, p3, _⟩, _, _⟩ := hJ1
              go_simp
              exact hK (.bool true) _ hJ (Below.refl _ _) rfl
            refine Inv.from_cons _ _ _ _ rfl (fun _ a w hJ hF F K hK => ?_) ?_
            · have hz : a.tmps.size = 95 := hF.size
              have e51 : a.tmps[51]? = some (.int .i64 0) := Inv2.some_slot (by rw [hz]; exact Nat.le_of_ble_eq_true rfl) (F 1 (by kernel_rfl) 51 rfl)
              have e52 : a.tmps[52]? = some (.bool true) := Inv2.some_slot (by rw [hz]; exact Nat.le_of_ble_eq_true rfl) (F 2 (by kernel_rfl) 52 rfl)
              clear F hF hz
              have hJ1 := hJ
              obtain ⟨⟨⟨c0, c1, c2, c3, _⟩, _, _⟩, ⟨d0, d1, d2, d3, _⟩, _, ⟨p0, p1, p2, p3, _⟩, _, _⟩ := hJ1
              go_simp
              exact hK (.bool true) _ hJ (Below.refl _ _) rfl
            refine Inv.from_cons _ _ _ _ rfl (fun _ a w hJ hF F K hK => ?_) ?_
            · have hz : a.tmps.size = 95 := hF.size
              have e5 : a.tmps[5]? = some (.pointer (some ⟨g4 + 1, 0, none⟩)) := Inv2.some_slot (by rw [hz]; exact Nat.le_of_ble_eq_true rfl) (hF.slot 5 (by kernel_rfl))
              have e53 : a.tmps[53]? = some (.bool true) := Inv2.some_slot (by rw [hz]; exact Nat.le_of_ble_eq_true rfl) (F 3 (by kernel_rfl) 53 rfl)
              clear F hF hz
              have hJ1 := hJ
              obtain ⟨⟨⟨c0, c1, c2, c3, _⟩, _, _⟩, ⟨d0, d1, d2, d3, _⟩, _, ⟨p0, p1, p2, p3, _⟩, _, _⟩ := hJ1
              go_simp
              exact hK (nv nb hb') _ hJ (Below.refl _ _) rfl
            refine Inv.from_cons _ _ _ _ rfl (fun _ a w hJ hF F K hK => ?_) ?_
            · have hz : a.tmps.size = 95 := hF.size
              have e53 : a.tmps[53]? = some (.bool true) := Inv2.some_slot (by rw [hz]; exact Nat.le_of_ble_eq_true rfl) (F 3 (by kernel_rfl) 53 rfl)
              have e54 : a.tmps[54]? = some (nv nb hb') := Inv2.some_slot (by rw [hz]; exact Nat.le_of_ble_eq_true rfl) (F 4 (by kernel_rfl) 54 rfl)
              clear F hF hz
              have hJ1 := hJ
              obtain ⟨⟨⟨c0, c1, c2, c3, _⟩, _, _⟩, ⟨d0, d1, d2, d3, _⟩, _, ⟨p0, p1, p2, p3, _⟩, _, _⟩ := hJ1
              have hh := rcheck_any w nb hb' hJ.2.2.2.2.1 HSB.out 0 (.inr (.inr ⟨HOB.out.1, HOB.out.2, rfl⟩))
              go_simp
              (with_reducible refine hh.mono ?_)
              rintro e w' ⟨rfl, hb⟩
              go_simp
              exact hK _ _ ⟨hJ.1.below hb, hJ.2.1.below hb, hJ.2.2.1.below hb, hJ.2.2.2.1.below hb, hJ.2.2.2.2.1.below hb, bstep hJ.2.2.2.2.2 (Nat.le_of_lt hJ.2.1.lt) hb⟩ hb rfl
            refine Inv.from_cons _ _ _ _ rfl (fun _ a w hJ hF F K hK => ?_) ?_
            · have hz : a.tmps.size = 95 := hF.size
              have e53 : a.tmps[53]? = some (.bool true) := Inv2.some_slot (by rw [hz]; exact Nat.le_of_ble_eq_true rfl) (F 3 (by kernel_rfl) 53 rfl)
              have e55 : a.tmps[55]? = some (.int .i64 0) := Inv2.some_slot (by rw [hz]; exact Nat.le_of_ble_eq_true rfl) (F 5 (by kernel_rfl) 55 rfl)
              clear F hF hz
              have hJ1 := hJ
              obtain ⟨⟨⟨c0, c1, c2, c3, _⟩, _, _⟩, ⟨d0, d1, d2, d3, _⟩, _, ⟨p0, p1, p2, p3, _⟩, _, _⟩ := hJ1
              go_simp
              exact hK (.bool true) _ hJ (Below.refl _ _) rfl
            refine Inv.from_cons _ _ _ _ rfl (fun _ a w hJ hF F K hK => ?_) ?_
            · have hz : a.tmps.size = 95 := hF.size
              have e53 : a.tmps[53]? = some (.bool true) := Inv2.some_slot (by rw [hz]; exact Nat.le_of_ble_eq_true rfl) (F 3 (by kernel_rfl) 53 rfl)
              have e56 : a.tmps[56]? = some (.bool true) := Inv2.some_slot (by rw [hz]; exact Nat.le_of_ble_eq_true rfl) (F 6 (by kernel_rfl) 56 rfl)
              clear F hF hz
              have hJ1 := hJ
              obtain ⟨⟨⟨c0, c1, c2, c3, _⟩, _, _⟩, ⟨d0, d1, d2, d3, _⟩, _, ⟨p0, p1, p2, p3, _⟩, _, _⟩ := hJ1
              go_simp
              exact hK (.bool true) _ hJ (Below.refl _ _) rfl
            refine Inv.from_cons _ _ _ _ rfl (fun _ a w hJ hF F K hK => ?_) ?_
            · have hz : a.tmps.size = 95 := hF.size
              have e55 : a.tmps[55]? = some (.int .i64 0) := Inv2.some_slot (by rw [hz]; exact Nat.le_of_ble_eq_true rfl) (F 5 (by kernel_rfl) 55 rfl)
              have e57 : a.tmps[57]? = some (.bool true) := Inv2.some_slot (by rw [hz]; exact Nat.le_of_ble_eq_true rfl) (F 7 (by kernel_rfl) 57 rfl)
              clear F hF hz
              have hJ1 := hJ
              obtain ⟨⟨⟨c0, c1, c2, c3, _⟩, _, _⟩, ⟨d0, d1, d2, d3, _⟩, _, ⟨p0, p1, p2, p3, _⟩, _, _⟩ := hJ1
              go_simp
              exact hK (.bool true) _ hJ (Below.refl _ _) rfl
            refine Inv.from_cons _ _ _ _ rfl (fun _ a w hJ hF F K hK => ?_) ?_
            · have hz : a.tmps.size = 95 := hF.size
              have e3 : a.tmps[3]? = some (.pointer (some ⟨g4, 0, none⟩)) := Inv2.some_slot (by rw [hz]; exact Nat.le_of_ble_eq_true rfl) (hF.slot 3 (by kernel_rfl))
              have e58 : a.tmps[58]? = some (.bool true) := Inv2.some_slot (by rw [hz]; exact Nat.le_of_ble_eq_true rfl) (F 8 (by kernel_rfl) 58 rfl)
              clear F hF hz
              have hJ1 := hJ
              obtain ⟨⟨⟨c0, c1, c2, c3, _⟩, _, _⟩, ⟨d0, d1, d2, d3, _⟩, _, ⟨p0, p1, p2, p3, _⟩, _, _⟩ := hJ1
              go_simp
              exact hK (nv na ha) _ hJ (Below.refl _ _) rfl
            refine Inv.from_cons _ _ _ _ rfl (fun _ a w hJ hF F K hK => ?_) ?_
            · have hz : a.tmps.size = 95 := hF.size
              have e4 : a.tmps[4]? = some (.string key) := Inv2.some_slot (by rw [hz]; exact Nat.le_of_ble_eq_true rfl) (hF.slot 4 (by kernel_rfl))
              have e58 : a.tmps[58]? = some (.bool true) := Inv2.some_slot (by rw [hz]; exact Nat.le_of_ble_eq_true rfl) (F 8 (by kernel_rfl) 58 rfl)
              clear F hF hz
              have hJ1 := hJ
              obtain ⟨⟨⟨c0, c1, c2, c3, _⟩, _, _⟩, ⟨d0, d1, d2, d3, _⟩, _, ⟨p0, p1, p2, p3, _⟩, _, _⟩ := hJ1
              go_simp
              exact hK (.string key) _ hJ (Below.refl _ _) rfl
            refine Inv.from_cons _ _ _ _ rfl (fun _ a w hJ hF F K hK => ?_) ?_
            · have hz : a.tmps.size = 95 := hF.size
              have e5 : a.tmps[5]? = some (.pointer (some ⟨g4 + 1, 0, none⟩)) := Inv2.some_slot (by rw [hz]; exact Nat.le_of_ble_eq_true rfl) (hF.slot 5 (by kernel_rfl))
              have e58 : a.tmps[58]? = some (.bool true) := Inv2.some_slot (by rw [hz]; exact Nat.le_of_ble_eq_true rfl) (F 8 (by kernel_rfl) 58 rfl)
              clear F hF hz
              have hJ1 := hJ
              obtain ⟨⟨⟨c0, c1, c2, c3, _⟩, _, _⟩, ⟨d0, d1, d2, d3, _⟩, _, ⟨p0, p1, p2, p3, _⟩, _, _⟩ := hJ1
              go_simp
              exact hK (nv nb hb') _ hJ (Below.refl _ _) rfl
            refine Inv.from_cons _ _ _ _ rfl (fun _ a w hJ hF F K hK => ?_) ?_
            · have hz : a.tmps.size = 95 := hF.size
              have e58 : a.tmps[58]? = some (.bool true) := Inv2.some_slot (by rw [hz]; exact Nat.le_of_ble_eq_true rfl) (F 8 (by kernel_rfl) 58 rfl)
              have e59 : a.tmps[59]? = some (nv na ha) := Inv2.some_slot (by rw [hz]; exact Nat.le_of_ble_eq_true rfl) (F 9 (by kernel_rfl) 59 rfl)
              have e60 : a.tmps[60]? = some (.string key) := Inv2.some_slot (by rw [hz]; exact Nat.le_of_ble_eq_true rfl) (F 10 (by kernel_rfl) 60 rfl)
              have e61 : a.tmps[61]? = some (nv nb hb') := Inv2.some_slot (by rw [hz]; exact Nat.le_of_ble_eq_true rfl) (F 11 (by kernel_rfl) 61 rfl)
              clear F hF hz
              have hJ1 := hJ
              obtain ⟨⟨⟨c0, c1, c2, c3, _⟩, _, _⟩, ⟨d0, d1, d2, d3, _⟩, _, ⟨p0, p1, p2, p3, _⟩, _, _⟩ := hJ1
              have hh := join_leaf w na nb ha hb' key hJ.2.2.1 hJ.2.2.2.2.1 HSA.out HSB.out HLA.out HLB.out
              rw [HJN.out] at hh
              go_simp
              (with_reducible refine hh.mono ?_)
              rintro e w' ⟨v, rfl, hv, hb⟩
              go_simp
              exact hK _ _ ⟨hJ.1.below hb, hJ.2.1.below hb, hJ.2.2.1.below hb, hJ.2.2.2.1.below hb, hJ.2.2.2.2.1.below hb, bstep hJ.2.2.2.2.2 (Nat.le_of_lt hJ.2.1.lt) hb⟩ hb hv
            refine Inv.from_cons _ _ _ _ rfl (fun _ a w hJ hF F K hK => ?_) ?_
            · have hz : a.tmps.size = 95 := hF.size
              have e1 : a.tmps[1]? = some (.pointer (some ⟨W.heap.size, 0, none⟩)) := Inv2.some_slot (by rw [hz]; exact Nat.le_of_ble_eq_true rfl) (hF.slot 1 (by kernel_rfl))
              have e58 : a.tmps[58]? = some (.bool true) := Inv2.some_slot (by rw [hz]; exact Nat.le_of_ble_eq_true rfl) (F 8 (by kernel_rfl) 58 rfl)
              clear F hF hz
              have hJ1 := hJ
              obtain ⟨⟨⟨c0, c1, c2, c3, _⟩, _, _⟩, ⟨d0, d1, d2, d3, _⟩, _, ⟨p0, p1, p2, p3, _⟩, _, _⟩ := hJ1
              go_simp
              exact hK (nv n h) _ hJ (Below.refl _ _) rfl
            refine Inv.from_cons _ _ _ _ rfl (fun _ a w hJ hF F K hK => ?_) ?_
            · have hz : a.tmps.size = 95 := hF.size
              have e58 : a.tmps[58]? = some (.bool true) := Inv2.some_slot (by rw [hz]; exact Nat.le_of_ble_eq_true rfl) (F 8 (by kernel_rfl) 58 rfl)
              obtain ⟨x62, e62, f12⟩ : ∃ x, a.tmps[62]? = some x ∧ Nv n x w := ⟨_, Inv2.some_slot (by rw [hz]; exact Nat.le_of_ble_eq_true rfl) rfl, F 12 (by kernel_rfl) 62 rfl⟩
              have e63 : a.tmps[63]? = some (nv n h) := Inv2.some_slot (by rw [hz]; exact Nat.le_of_ble_eq_true rfl) (F 13 (by kernel_rfl) 63 rfl)
              clear F hF hz
              have hJ1 := hJ
              obtain ⟨⟨⟨c0, c1, c2, c3, _⟩, _, _⟩, ⟨d0, d1, d2, d3, _⟩, _, ⟨p0, p1, p2, p3, _⟩, _, _⟩ := hJ1
              obtain ⟨hj, rfl, lj⟩ := f12
              have hh := rsame_any w n n hj h lj hJ.1.2.1 HSN.out.k HSN.out.k HSN.out.v HSN.out.v HSN.out.d true ⟨fun _ => rfl, fun _ => rfl⟩
              go_simp
              (with_reducible refine hh.mono ?_)
              rintro e w' ⟨rfl, hb⟩
              go_simp
              exact hK _ _ ⟨hJ.1.below hb, hJ.2.1.below hb, hJ.2.2.1.below hb, hJ.2.2.2.1.below hb, hJ.2.2.2.2.1.below hb, bstep hJ.2.2.2.2.2 (Nat.le_of_lt hJ.2.1.lt) hb⟩ hb rfl
            refine Inv.from_cons _ _ _ _ rfl (fun _ a w hJ hF F K hK => ?_) ?_
            · have hz : a.tmps.size = 95 := hF.size
              have e58 : a.tmps[58]? = some (.bool true) := Inv2.some_slot (by rw [hz]; exact Nat.le_of_ble_eq_true rfl) (F 8 (by kernel_rfl) 58 rfl)
              have e64 : a.tmps[64]? = some (.bool true) := Inv2.some_slot (by rw [hz]; exact Nat.le_of_ble_eq_true rfl) (F 14 (by kernel_rfl) 64 rfl)
              clear F hF hz
              have hJ1 := hJ
              obtain ⟨⟨⟨c0, c1, c2, c3, _⟩, _, _⟩, ⟨d0, d1, d2, d3, _⟩, _, ⟨p0, p1, p2, p3, _⟩, _, _⟩ := hJ1
              go_simp
              exact hK (.bool true) _ hJ (Below.refl _ _) rfl
            refine Inv.from_cons _ _ _ _ rfl (fun _ a w hJ hF F K hK => ?_) ?_
            · have hz : a.tmps.size = 95 := hF.size
              have e64 : a.tmps[64]? = some (.bool true) := Inv2.some_slot (by rw [hz]; exact Nat.le_of_ble_eq_true rfl) (F 14 (by kernel_rfl) 64 rfl)
              have e65 : a.tmps[65]? = some (.bool true) := Inv2.some_slot (by rw [hz]; exact Nat.le_of_ble_eq_true rfl) (F 15 (by kernel_rfl) 65 rfl)
              clear F hF hz
              have hJ1 := hJ
              obtain ⟨⟨⟨c0, c1, c2, c3, _⟩, _, _⟩, ⟨d0, d1, d2, d3, _⟩, _, ⟨p0, p1, p2, p3, _⟩, _, _⟩ := hJ1
              go_simp
              exact hK (.bool true) _ hJ (Below.refl _ _) rfl
            refine Inv.from_cons _ _ _ _ rfl (fun _ a w hJ hF F K hK => ?_) ?_
            · have hz : a.tmps.size = 95 := hF.size
              have e3 : a.tmps[3]? = some (.pointer (some ⟨g4, 0, none⟩)) := Inv2.some_slot (by rw [hz]; exact Nat.le_of_ble_eq_true rfl) (hF.slot 3 (by kernel_rfl))
              have e66 : a.tmps[66]? = some (.bool true) := Inv2.some_slot (by rw [hz]; exact Nat.le_of_ble_eq_true rfl) (F 16 (by kernel_rfl) 66 rfl)
              clear F hF hz
              have hJ1 := hJ
              obtain ⟨⟨⟨c0, c1, c2, c3, _⟩, _, _⟩, ⟨d0, d1, d2, d3, _⟩, _, ⟨p0, p1, p2, p3, _⟩, _, _⟩ := hJ1
              go_simp
              exact hK (.pointer (some ⟨g4, 1, none⟩)) _ hJ (Below.refl _ _) rfl
            refine Inv.from_cons _ _ _ _ rfl (fun _ a w hJ hF F K hK => ?_) ?_
            · have hz : a.tmps.size = 95 := hF.size
              have e66 : a.tmps[66]? = some (.bool true) := Inv2.some_slot (by rw [hz]; exact Nat.le_of_ble_eq_true rfl) (F 16 (by kernel_rfl) 66 rfl)
              have e67 : a.tmps[67]? = some (.pointer (some ⟨g4, 1, none⟩)) := Inv2.some_slot (by rw [hz]; exact Nat.le_of_ble_eq_true rfl) (F 17 (by kernel_rfl) 67 rfl)
              clear F hF hz
              have hJ1 := hJ
              obtain ⟨⟨⟨c0, c1, c2, c3, _⟩, _, _⟩, ⟨d0, d1, d2, d3, _⟩, _, ⟨p0, p1, p2, p3, _⟩, _, _⟩ := hJ1
              go_simp
              exact hK (.slice ha.K na.keys.length ha.kc) _ hJ (Below.refl _ _) rfl
            refine Inv.from_cons _ _ _ _ rfl (fun _ a w hJ hF F K hK => ?_) ?_
            · have hz : a.tmps.size = 95 := hF.size
              have e66 : a.tmps[66]? = some (.bool true) := Inv2.some_slot (by rw [hz]; exact Nat.le_of_ble_eq_true rfl) (F 16 (by kernel_rfl) 66 rfl)
              have e68 : a.tmps[68]? = some (.slice ha.K na.keys.length ha.kc) := Inv2.some_slot (by rw [hz]; exact Nat.le_of_ble_eq_true rfl) (F 18 (by kernel_rfl) 68 rfl)
              clear F hF hz
              have hJ1 := hJ
              obtain ⟨⟨⟨c0, c1, c2, c3, _⟩, _, _⟩, ⟨d0, d1, d2, d3, _⟩, _, ⟨p0, p1, p2, p3, _⟩, _, _⟩ := hJ1
              go_simp
              exact hK (.int .i64 (na.keys.length : Int)) _ hJ (Below.refl _ _) rfl
            refine Inv.from_cons _ _ _ _ rfl (fun _ a w hJ hF F K hK => ?_) ?_
            · have hz : a.tmps.size = 95 := hF.size
              have e6 : a.tmps[6]? = some (.int .i64 ((n.keys.length : Int) / 2)) := Inv2.some_slot (by rw [hz]; exact Nat.le_of_ble_eq_true rfl) (hF.slot 6 (by kernel_rfl))
              have e66 : a.tmps[66]? = some (.bool true) := Inv2.some_slot (by rw [hz]; exact Nat.le_of_ble_eq_true rfl) (F 16 (by kernel_rfl) 66 rfl)
              clear F hF hz
              have hJ1 := hJ
              obtain ⟨⟨⟨c0, c1, c2, c3, _⟩, _, _⟩, ⟨d0, d1, d2, d3, _⟩, _, ⟨p0, p1, p2, p3, _⟩, _, _⟩ := hJ1
              go_simp
              exact hK (.int .i64 ((n.keys.length : Int) / 2)) _ hJ (Below.refl _ _) rfl
            refine Inv.from_cons _ _ _ _ rfl (fun _ a w hJ hF F K hK => ?_) ?_
            · have hz : a.tmps.size = 95 := hF.size
              have e66 : a.tmps[66]? = some (.bool true) := Inv2.some_slot (by rw [hz]; exact Nat.le_of_ble_eq_true rfl) (F 16 (by kernel_rfl) 66 rfl)
              have e69 : a.tmps[69]? = some (.int .i64 (na.keys.length : Int)) := Inv2.some_slot (by rw [hz]; exact Nat.le_of_ble_eq_true rfl) (F 19 (by kernel_rfl) 69 rfl)
              have e70 : a.tmps[70]? = some (.int .i64 ((n.keys.length : Int) / 2)) := Inv2.some_slot (by rw [hz]; exact Nat.le_of_ble_eq_true rfl) (F 20 (by kernel_rfl) 70 rfl)
              clear F hF hz
              have hJ1 := hJ
              obtain ⟨⟨⟨c0, c1, c2, c3, _⟩, _, _⟩, ⟨d0, d1, d2, d3, _⟩, _, ⟨p0, p1, p2, p3, _⟩, _, _⟩ := hJ1
              have hi1 : (na.keys.length : Int) = (n.keys.length : Int) / 2 := by have := HKA.out; omega
              go_simp
              exact hK (.bool true) _ hJ (Below.refl _ _) rfl
            refine Inv.from_cons _ _ _ _ rfl (fun _ a w hJ hF F K hK => ?_) ?_
            · have hz : a.tmps.size = 95 := hF.size
              have e66 : a.tmps[66]? = some (.bool true) := Inv2.some_slot (by rw [hz]; exact Nat.le_of_ble_eq_true rfl) (F 16 (by kernel_rfl) 66 rfl)
              have e71 : a.tmps[71]? = some (.bool true) := Inv2.some_slot (by rw [hz]; exact Nat.le_of_ble_eq_true rfl) (F 21 (by kernel_rfl) 71 rfl)
              clear F hF hz
              have hJ1 := hJ
              obtain ⟨⟨⟨c0, c1, c2, c3, _⟩, _, _⟩, ⟨d0, d1, d2, d3, _⟩, _, ⟨p0, p1, p2, p3, _⟩, _, _⟩ := hJ1
              go_simp
              exact hK (.bool true) _ hJ (Below.refl _ _) rfl
            refine Inv.from_cons _ _ _ _ rfl (fun _ a w hJ hF F K hK => ?_) ?_
            · have hz : a.tmps.size = 95 := hF.size
              have e66 : a.tmps[66]? = some (.bool true) := Inv2.some_slot (by rw [hz]; exact Nat.le_of_ble_eq_true rfl) (F 16 (by kernel_rfl) 66 rfl)
              have e72 : a.tmps[72]? = some (.bool true) := Inv2.some_slot (by rw [hz]; exact Nat.le_of_ble_eq_true rfl) (F 22 (by kernel_rfl) 72 rfl)
              clear F hF hz
              have hJ1 := hJ
              obtain ⟨⟨⟨c0, c1, c2, c3, _⟩, _, _⟩, ⟨d0, d1, d2, d3, _⟩, _, ⟨p0, p1, p2, p3, _⟩, _, _⟩ := hJ1
              go_simp
              exact hK (.bool true) _ hJ (Below.refl _ _) rfl
            refine Inv.from_cons _ _ _ _ rfl (fun _ a w hJ hF F K hK => ?_) ?_
            · have hz : a.tmps.size = 95 := hF.size
              have e5 : a.tmps[5]? = some (.pointer (some ⟨g4 + 1, 0, none⟩)) := Inv2.some_slot (by rw [hz]; exact Nat.le_of_ble_eq_true rfl) (hF.slot 5 (by kernel_rfl))
              have e73 : a.tmps[73]? = some (.bool true) := Inv2.some_slot (by rw [hz]; exact Nat.le_of_ble_eq_true rfl) (F 23 (by kernel_rfl) 73 rfl)
              clear F hF hz
              have hJ1 := hJ
              obtain ⟨⟨⟨c0, c1, c2, c3, _⟩, _, _⟩, ⟨d0, d1, d2, d3, _⟩, _, ⟨p0, p1, p2, p3, _⟩, _, _⟩ := hJ1
              go_simp
              exact hK (.pointer (some ⟨g4 + 1, 1, none⟩)) _ hJ (Below.refl _ _) rfl
            refine Inv.from_cons _ _ _ _ rfl (fun _ a w hJ hF F K hK => ?_) ?_
            · have hz : a.tmps.size = 95 := hF.size
              have e73 : a.tmps[73]? = some (.bool true) := Inv2.some_slot (by rw [hz]; exact Nat.le_of_ble_eq_true rfl) (F 23 (by kernel_rfl) 73 rfl)
              have e74 : a.tmps[74]? = some (.pointer (some ⟨g4 + 1, 1, none⟩)) := Inv2.some_slot (by rw [hz]; exact Nat.le_of_ble_eq_true rfl) (F 24 (by kernel_rfl) 74 rfl)
              clear F hF hz
              have hJ1 := hJ
              obtain ⟨⟨⟨c0, c1, c2, c3, _⟩, _, _⟩, ⟨d0, d1, d2, d3, _⟩, _, ⟨p0, p1, p2, p3, _⟩, _, _⟩ := hJ1
              go_simp
              exact hK (.slice hb'.K nb.keys.length hb'.kc) _ hJ (Below.refl _ _) rfl
            refine Inv.from_cons _ _ _ _ rfl (fun _ a w hJ hF F K hK => ?_) ?_
            · have hz : a.tmps.size = 95 := hF.size
              have e73 : a.tmps[73]? = some (.bool true) := Inv2.some_slot (by rw [hz]; exact Nat.le_of_ble_eq_true rfl) (F 23 (by kernel_rfl) 73 rfl)
              have e75 : a.tmps[75]? = some (.slice hb'.K nb.keys.length hb'.kc) := Inv2.some_slot (by rw [hz]; exact Nat.le_of_ble_eq_true rfl) (F 25 (by kernel_rfl) 75 rfl)
              clear F hF hz
              have hJ1 := hJ
              obtain ⟨⟨⟨c0, c1, c2, c3, _⟩, _, _⟩, ⟨d0, d1, d2, d3, _⟩, _, ⟨p0, p1, p2, p3, _⟩, _, _⟩ := hJ1
              go_simp
              exact hK (.int .i64 (nb.keys.length : Int)) _ hJ (Below.refl _ _) rfl
            refine Inv.from_cons _ _ _ _ rfl (fun _ a w hJ hF F K hK => ?_) ?_
            · have hz : a.tmps.size = 95 := hF.size
              have e1 : a.tmps[1]? = some (.pointer (some ⟨W.heap.size, 0, none⟩)) := Inv2.some_slot (by rw [hz]; exact Nat.le_of_ble_eq_true rfl) (hF.slot 1 (by kernel_rfl))
              have e73 : a.tmps[73]? = some (.bool true) := Inv2.some_slot (by rw [hz]; exact Nat.le_of_ble_eq_true rfl) (F 23 (by kernel_rfl) 73 rfl)
              clear F hF hz
              have hJ1 := hJ
              obtain ⟨⟨⟨c0, c1, c2, c3, _⟩, _, _⟩, ⟨d0, d1, d2, d3, _⟩, _, ⟨p0, p1, p2, p3, _⟩, _, _⟩ := hJ1
              go_simp
              exact hK (.pointer (some ⟨W.heap.size, 1, none⟩)) _ hJ (Below.refl _ _) rfl
            refine Inv.from_cons _ _ _ _ rfl (fun _ a w hJ hF F K hK => ?_) ?_
            · have hz : a.tmps.size = 95 := hF.size
              have e73 : a.tmps[73]? = some (.bool true) := Inv2.some_slot (by rw [hz]; exact Nat.le_of_ble_eq_true rfl) (F 23 (by kernel_rfl) 73 rfl)
              have e77 : a.tmps[77]? = some (.pointer (some ⟨W.heap.size, 1, none⟩)) := Inv2.some_slot (by rw [hz]; exact Nat.le_of_ble_eq_true rfl) (F 27 (by kernel_rfl) 77 rfl)
              clear F hF hz
              have hJ1 := hJ
              obtain ⟨⟨⟨c0, c1, c2, c3, _⟩, _, _⟩, ⟨d0, d1, d2, d3, _⟩, _, ⟨p0, p1, p2, p3, _⟩, _, _⟩ := hJ1
              go_simp
              exact hK (.slice h.K n.keys.length h.kc) _ hJ (Below.refl _ _) rfl
            refine Inv.from_cons _ _ _ _ rfl (fun _ a w hJ hF F K hK => ?_) ?_
            · have hz : a.tmps.size = 95 := hF.size
              have e73 : a.tmps[73]? = some (.bool true) := Inv2.some_slot (by rw [hz]; exact Nat.le_of_ble_eq_true rfl) (F 23 (by kernel_rfl) 73 rfl)
              have e78 : a.tmps[78]? = some (.slice h.K n.keys.length h.kc) := Inv2.some_slot (by rw [hz]; exact Nat.le_of_ble_eq_true rfl) (F 28 (by kernel_rfl) 78 rfl)
              clear F hF hz
              have hJ1 := hJ
              obtain ⟨⟨⟨c0, c1, c2, c3, _⟩, _, _⟩, ⟨d0, d1, d2, d3, _⟩, _, ⟨p0, p1, p2, p3, _⟩, _, _⟩ := hJ1
              go_simp
              exact hK (.int .i64 (n.keys.length : Int)) _ hJ (Below.refl _ _) rfl
            refine Inv.from_cons _ _ _ _ rfl (fun _ a w hJ hF F K hK => ?_) ?_
            · have hz : a.tmps.size = 95 := hF.size
              have e6 : a.tmps[6]? = some (.int .i64 ((n.keys.length : Int) / 2)) := Inv2.some_slot (by rw [hz]; exact Nat.le_of_ble_eq_true rfl) (hF.slot 6 (by kernel_rfl))
              have e73 : a.tmps[73]? = some (.bool true) := Inv2.some_slot (by rw [hz]; exact Nat.le_of_ble_eq_true rfl) (F 23 (by kernel_rfl) 73 rfl)
              clear F hF hz
              have hJ1 := hJ
              obtain ⟨⟨⟨c0, c1, c2, c3, _⟩, _, _⟩, ⟨d0, d1, d2, d3, _⟩, _, ⟨p0, p1, p2, p3, _⟩, _, _⟩ := hJ1
              go_simp
              exact hK (.int .i64 ((n.keys.length : Int) / 2)) _ hJ (Below.refl _ _) rfl
            refine Inv.from_cons _ _ _ _ rfl (fun _ a w hJ hF F K hK => ?_) ?_
            · have hz : a.tmps.size = 95 := hF.size
              have e73 : a.tmps[73]? = some (.bool true) := Inv2.some_slot (by rw [hz]; exact Nat.le_of_ble_eq_true rfl) (F 23 (by kernel_rfl) 73 rfl)
              have e79 : a.tmps[79]? = some (.int .i64 (n.keys.length : Int)) := Inv2.some_slot (by rw [hz]; exact Nat.le_of_ble_eq_true rfl) (F 29 (by kernel_rfl) 79 rfl)
              have e80 : a.tmps[80]? = some (.int .i64 ((n.keys.length : Int) / 2)) := Inv2.some_slot (by rw [hz]; exact Nat.le_of_ble_eq_true rfl) (F 30 (by kernel_rfl) 80 rfl)
              clear F hF hz
              have hJ1 := hJ
              obtain ⟨⟨⟨c0, c1, c2, c3, _⟩, _, _⟩, ⟨d0, d1, d2, d3, _⟩, _, ⟨p0, p1, p2, p3, _⟩, _, _⟩ := hJ1
              have hi1 : wrap64 ((n.keys.length : Int) - (n.keys.length : Int) / 2) = (n.keys.length : Int) - (n.keys.length : Int) / 2 := by have := HN.out; unfold wrap64; omega
              have hi2 : IntKind.i64.wrap ((n.keys.length : Int) - (n.keys.length : Int) / 2) = (n.keys.length : Int) - (n.keys.length : Int) / 2 := IntWalk.i64_in _ (by have := HN.out; omega)
              go_simp
              exact hK (.int .i64 ((n.keys.length : Int) - (n.keys.length : Int) / 2)) _ hJ (Below.refl _ _) rfl
            refine Inv.from_cons _ _ _ _ rfl (fun _ a w hJ hF F K hK => ?_) ?_
            · have hz : a.tmps.size = 95 := hF.size
              have e7 : a.tmps[7]? = some (.int .i64 0) := Inv2.some_slot (by rw [hz]; exact Nat.le_of_ble_eq_true rfl) (hF.slot 7 (by kernel_rfl))
              have e73 : a.tmps[73]? = some (.bool true) := Inv2.some_slot (by rw [hz]; exact Nat.le_of_ble_eq_true rfl) (F 23 (by kernel_rfl) 73 rfl)
              clear F hF hz
              have hJ1 := hJ
              obtain ⟨⟨⟨c0, c1, c2, c3, _⟩, _, _⟩, ⟨d0, d1, d2, d3, _⟩, _, ⟨p0, p1, p2, p3, _⟩, _, _⟩ := hJ1
              go_simp
              exact hK (.int .i64 0) _ hJ (Below.refl _ _) rfl
            refine Inv.from_cons _ _ _ _ rfl (fun _ a w hJ hF F K hK => ?_) ?_
            · have hz : a.tmps.size = 95 := hF.size
              have e73 : a.tmps[73]? = some (.bool true) := Inv2.some_slot (by rw [hz]; exact Nat.le_of_ble_eq_true rfl) (F 23 (by kernel_rfl) 73 rfl)
              have e81 : a.tmps[81]? = some (.int .i64 ((n.keys.length : Int) - (n.keys.length : Int) / 2)) := Inv2.some_slot (by rw [hz]; exact Nat.le_of_ble_eq_true rfl) (F 31 (by kernel_rfl) 81 rfl)
              have e82 : a.tmps[82]? = some (.int .i64 0) := Inv2.some_slot (by rw [hz]; exact Nat.le_of_ble_eq_true rfl) (F 32 (by kernel_rfl) 82 rfl)
              clear F hF hz
              have hJ1 := hJ
              obtain ⟨⟨⟨c0, c1, c2, c3, _⟩, _, _⟩, ⟨d0, d1, d2, d3, _⟩, _, ⟨p0, p1, p2, p3, _⟩, _, _⟩ := hJ1
              have hi1 : wrap64 ((n.keys.length : Int) - (n.keys.length : Int) / 2) = (n.keys.length : Int) - (n.keys.length : Int) / 2 := by have := HN.out; unfold wrap64; omega
              have hi2 : IntKind.i64.wrap ((n.keys.length : Int) - (n.keys.length : Int) / 2) = (n.keys.length : Int) - (n.keys.length : Int) / 2 := IntWalk.i64_in _ (by have := HN.out; omega)
              go_simp
              exact hK (.int .i64 ((n.keys.length : Int) - (n.keys.length : Int) / 2)) _ hJ (Below.refl _ _) rfl
            refine Inv.from_cons _ _ _ _ rfl (fun _ a w hJ hF F K hK => ?_) ?_
            · have hz : a.tmps.size = 95 := hF.size
              have e73 : a.tmps[73]? = some (.bool true) := Inv2.some_slot (by rw [hz]; exact Nat.le_of_ble_eq_true rfl) (F 23 (by kernel_rfl) 73 rfl)
              have e76 : a.tmps[76]? = some (.int .i64 (nb.keys.length : Int)) := Inv2.some_slot (by rw [hz]; exact Nat.le_of_ble_eq_true rfl) (F 26 (by kernel_rfl) 76 rfl)
              have e83 : a.tmps[83]? = some (.int .i64 ((n.keys.length : Int) - (n.keys.length : Int) / 2)) := Inv2.some_slot (by rw [hz]; exact Nat.le_of_ble_eq_true rfl) (F 33 (by kernel_rfl) 83 rfl)
              clear F hF hz
              have hJ1 := hJ
              obtain ⟨⟨⟨c0, c1, c2, c3, _⟩, _, _⟩, ⟨d0, d1, d2, d3, _⟩, _, ⟨p0, p1, p2, p3, _⟩, _, _⟩ := hJ1
              have hi1 : (nb.keys.length : Int) = (n.keys.length : Int) - (n.keys.length : Int) / 2 := by have := HKB.out; have := HH2.out; omega
              go_simp
              exact hK (.bool true) _ hJ (Below.refl _ _) rfl
            refine Inv.from_cons _ _ _ _ rfl (fun _ a w hJ hF F K hK => ?_) ?_
            · have hz : a.tmps.size = 95 := hF.size
              have e73 : a.tmps[73]? = some (.bool true) := Inv2.some_slot (by rw [hz]; exact Nat.le_of_ble_eq_true rfl) (F 23 (by kernel_rfl) 73 rfl)
              have e84 : a.tmps[84]? = some (.bool true) := Inv2.some_slot (by rw [hz]; exact Nat.le_of_ble_eq_true rfl) (F 34 (by kernel_rfl) 84 rfl)
              clear F hF hz
              have hJ1 := hJ
              obtain ⟨⟨⟨c0, c1, c2, c3, _⟩, _, _⟩, ⟨d0, d1, d2, d3, _⟩, _, ⟨p0, p1, p2, p3, _⟩, _, _⟩ := hJ1
              go_simp
              exact hK (.bool true) _ hJ (Below.refl _ _) rfl
            refine Inv.from_cons _ _ _ _ rfl (fun _ a w hJ hF F K hK => ?_) ?_
            · have hz : a.tmps.size = 95 := hF.size
              have e73 : a.tmps[73]? = some (.bool true) := Inv2.some_slot (by rw [hz]; exact Nat.le_of_ble_eq_true rfl) (F 23 (by kernel_rfl) 73 rfl)
              have e85 : a.tmps[85]? = some (.bool true) := Inv2.some_slot (by rw [hz]; exact Nat.le_of_ble_eq_true rfl) (F 35 (by kernel_rfl) 85 rfl)
              clear F hF hz
              have hJ1 := hJ
              obtain ⟨⟨⟨c0, c1, c2, c3, _⟩, _, _⟩, ⟨d0, d1, d2, d3, _⟩, _, ⟨p0, p1, p2, p3, _⟩, _, _⟩ := hJ1
              go_simp
              exact hK (.bool true) _ hJ (Below.refl _ _) rfl
            refine Inv.from_cons _ _ _ _ rfl (fun _ a w hJ hF F K hK => ?_) ?_
            · have hz : a.tmps.size = 95 := hF.size
              have e4 : a.tmps[4]? = some (.string key) := Inv2.some_slot (by rw [hz]; exact Nat.le_of_ble_eq_true rfl) (hF.slot 4 (by kernel_rfl))
              have e86 : a.tmps[86]? = some (.bool true) := Inv2.some_slot (by rw [hz]; exact Nat.le_of_ble_eq_true rfl) (F 36 (by kernel_rfl) 86 rfl)
              clear F hF hz
              have hJ1 := hJ
              obtain ⟨⟨⟨c0, c1, c2, c3, _⟩, _, _⟩, ⟨d0, d1, d2, d3, _⟩, _, ⟨p0, p1, p2, p3, _⟩, _, _⟩ := hJ1
              go_simp
              exact hK (.string key) _ hJ (Below.refl _ _) rfl
            refine Inv.from_cons _ _ _ _ rfl (fun _ a w hJ hF F K hK => ?_) ?_
            · have hz : a.tmps.size = 95 := hF.size
              have e1 : a.tmps[1]? = some (.pointer (some ⟨W.heap.size, 0, none⟩)) := Inv2.some_slot (by rw [hz]; exact Nat.le_of_ble_eq_true rfl) (hF.slot 1 (by kernel_rfl))
              have e86 : a.tmps[86]? = some (.bool true) := Inv2.some_slot (by rw [hz]; exact Nat.le_of_ble_eq_true rfl) (F 36 (by kernel_rfl) 86 rfl)
              clear F hF hz
              have hJ1 := hJ
              obtain ⟨⟨⟨c0, c1, c2, c3, _⟩, _, _⟩, ⟨d0, d1, d2, d3, _⟩, _, ⟨p0, p1, p2, p3, _⟩, _, _⟩ := hJ1
              go_simp
              exact hK (.pointer (some ⟨W.heap.size, 1, none⟩)) _ hJ (Below.refl _ _) rfl
            refine Inv.from_cons _ _ _ _ rfl (fun _ a w hJ hF F K hK => ?_) ?_
            · have hz : a.tmps.size = 95 := hF.size
              have e86 : a.tmps[86]? = some (.bool true) := Inv2.some_slot (by rw [hz]; exact Nat.le_of_ble_eq_true rfl) (F 36 (by kernel_rfl) 86 rfl)
              have e88 : a.tmps[88]? = some (.pointer (some ⟨W.heap.size, 1, none⟩)) := Inv2.some_slot (by rw [hz]; exact Nat.le_of_ble_eq_true rfl) (F 38 (by kernel_rfl) 88 rfl)
              clear F hF hz
              have hJ1 := hJ
              obtain ⟨⟨⟨c0, c1, c2, c3, _⟩, _, _⟩, ⟨d0, d1, d2, d3, _⟩, _, ⟨p0, p1, p2, p3, _⟩, _, _⟩ := hJ1
              rw [HKAD.out] at c1
              go_simp
              exact hK (.slice (some ad) n.keys.length h.kc) _ hJ (Below.refl _ _) rfl
            refine Inv.from_cons _ _ _ _ rfl (fun _ a w hJ hF F K hK => ?_) ?_
            · have hz : a.tmps.size = 95 := hF.size
              have e6 : a.tmps[6]? = some (.int .i64 ((n.keys.length : Int) / 2)) := Inv2.some_slot (by rw [hz]; exact Nat.le_of_ble_eq_true rfl) (hF.slot 6 (by kernel_rfl))
              have e86 : a.tmps[86]? = some (.bool true) := Inv2.some_slot (by rw [hz]; exact Nat.le_of_ble_eq_true rfl) (F 36 (by kernel_rfl) 86 rfl)
              clear F hF hz
              have hJ1 := hJ
              obtain ⟨⟨⟨c0, c1, c2, c3, _⟩, _, _⟩, ⟨d0, d1, d2, d3, _⟩, _, ⟨p0, p1, p2, p3, _⟩, _, _⟩ := hJ1
              go_simp
              exact hK (.int .i64 ((n.keys.length : Int) / 2)) _ hJ (Below.refl _ _) rfl
            refine Inv.from_cons _ _ _ _ rfl (fun _ a w hJ hF F K hK => ?_) ?_
            · have hz : a.tmps.size = 95 := hF.size
              have e86 : a.tmps[86]? = some (.bool true) := Inv2.some_slot (by rw [hz]; exact Nat.le_of_ble_eq_true rfl) (F 36 (by kernel_rfl) 86 rfl)
              have e89 : a.tmps[89]? = some (.slice (some ad) n.keys.length h.kc) := Inv2.some_slot (by rw [hz]; exact Nat.le_of_ble_eq_true rfl) (F 39 (by kernel_rfl) 89 rfl)
              have e90 : a.tmps[90]? = some (.int .i64 ((n.keys.length : Int) / 2)) := Inv2.some_slot (by rw [hz]; exact Nat.le_of_ble_eq_true rfl) (F 40 (by kernel_rfl) 90 rfl)
              clear F hF hz
              have hJ1 := hJ
              obtain ⟨⟨⟨c0, c1, c2, c3, _⟩, _, _⟩, ⟨d0, d1, d2, d3, _⟩, _, ⟨p0, p1, p2, p3, _⟩, _, _⟩ := hJ1
              have i0 : (0 : Int) ≤ (n.keys.length : Int) / 2 := by omega
              have i1 : (n.keys.length : Int) / 2 < (n.keys.length : Int) := by have := HH2.out; omega
              have i2 : ((n.keys.length : Int) / 2).toNat = n.keys.length / 2 := by omega
              go_simp
              exact hK (.pointer (some (ad.add (n.keys.length / 2)))) _ hJ (Below.refl _ _) rfl
            refine Inv.from_cons _ _ _ _ rfl (fun _ a w hJ hF F K hK => ?_) ?_
            · have hz : a.tmps.size = 95 := hF.size
              have e86 : a.tmps[86]? = some (.bool true) := Inv2.some_slot (by rw [hz]; exact Nat.le_of_ble_eq_true rfl) (F 36 (by kernel_rfl) 86 rfl)
              have e91 : a.tmps[91]? = some (.pointer (some (ad.add (n.keys.length / 2)))) := Inv2.some_slot (by rw [hz]; exact Nat.le_of_ble_eq_true rfl) (F 41 (by kernel_rfl) 91 rfl)
              clear F hF hz
              have hJ1 := hJ
              obtain ⟨⟨⟨c0, c1, c2, c3, _⟩, _, _⟩, ⟨d0, d1, d2, d3, _⟩, _, ⟨p0, p1, p2, p3, _⟩, _, _⟩ := hJ1
              have hcell := HCK.out w hJ.2.2.2.2.2
              go_simp
              exact hK (.string key) _ hJ (Below.refl _ _) rfl
            refine Inv.from_cons _ _ _ _ rfl (fun _ a w hJ hF F K hK => ?_) ?_
            · have hz : a.tmps.size = 95 := hF.size
              have e86 : a.tmps[86]? = some (.bool true) := Inv2.some_slot (by rw [hz]; exact Nat.le_of_ble_eq_true rfl) (F 36 (by kernel_rfl) 86 rfl)
              have e87 : a.tmps[87]? = some (.string key) := Inv2.some_slot (by rw [hz]; exact Nat.le_of_ble_eq_true rfl) (F 37 (by kernel_rfl) 87 rfl)
              have e92 : a.tmps[92]? = some (.string key) := Inv2.some_slot (by rw [hz]; exact Nat.le_of_ble_eq_true rfl) (F 42 (by kernel_rfl) 92 rfl)
              clear F hF hz
              have hJ1 := hJ
              obtain ⟨⟨⟨c0, c1, c2, c3, _⟩, _, _⟩, ⟨d0, d1, d2, d3, _⟩, _, ⟨p0, p1, p2, p3, _⟩, _, _⟩ := hJ1
              go_simp
              exact hK (.bool true) _ hJ (Below.refl _ _) rfl
            refine Inv.from_cons _ _ _ _ rfl (fun _ a w hJ hF F K hK => ?_) ?_
            · have hz : a.tmps.size = 95 := hF.size
              have e86 : a.tmps[86]? = some (.bool true) := Inv2.some_slot (by rw [hz]; exact Nat.le_of_ble_eq_true rfl) (F 36 (by kernel_rfl) 86 rfl)
              have e93 : a.tmps[93]? = some (.bool true) := Inv2.some_slot (by rw [hz]; exact Nat.le_of_ble_eq_true rfl) (F 43 (by kernel_rfl) 93 rfl)
              clear F hF hz
              have hJ1 := hJ
              obtain ⟨⟨⟨c0, c1, c2, c3, _⟩, _, _⟩, ⟨d0, d1, d2, d3, _⟩, _, ⟨p0, p1, p2, p3, _⟩, _, _⟩ := hJ1
              go_simp
              exact hK (.bool true) _ hJ (Below.refl _ _) rfl
            refine Inv.from_skip _ _ _ _ rfl ?_
            exact Inv.from_end _ _ _ _ (by decide +kernel)
          · intro o ho a w hJ hF F K hK
            injection (show some _ = some o from ho) with ho
            subst ho
            obtain ⟨⟨l⟩, ds⟩ := a
            have hsz : l.length = 95 := hF.size
            obtain ⟨x0, x1, x2, x3, x4, x5, x6, x7, x8, x9, x10, x11, x12, x13, x14, x15, x16, x17, x18, x19, x20, x21, x22, x23, x24, x25, x26, x27, x28, x29, x30, x31, x32, x33, x34, x35, x36, x37, x38, x39, x40, x41, x42, x43, x44, x45, x46, x47, x48, x49, x50, x51, x52, x53, x54, x55, x56, x57, x58, x59, x60, x61, x62, x63, x64, x65, x66, x67, x68, x69, x70, x71, x72, x73, x74, x75, x76, x77, x78, x79, x80, x81, x82, x83, x84, x85, x86, x87, x88, x89, x90, x91, x92, x93, x94, rfl⟩ := Lits.lit95 l hsz
            · skip
              obtain rfl : ds = [] := hF.defers
              obtain rfl : x1 = .pointer (some ⟨W.heap.size, 0, none⟩) := hF.slot 1 (by kernel_rfl)
              obtain rfl : x3 = .pointer (some ⟨g4, 0, none⟩) := hF.slot 3 (by kernel_rfl)
              obtain rfl : x4 = .string key := hF.slot 4 (by kernel_rfl)
              obtain rfl : x5 = .pointer (some ⟨g4 + 1, 0, none⟩) := hF.slot 5 (by kernel_rfl)
              obtain rfl : x6 = .int .i64 ((n.keys.length : Int) / 2) := hF.slot 6 (by kernel_rfl)
              obtain rfl : x7 = .int .i64 0 := hF.slot 7 (by kernel_rfl)
              have f0 : x50 = nv na ha := F 0 (by decide) 50 rfl
              have f1 : x51 = .int .i64 0 := F 1 (by decide) 51 rfl
              have f2 : x52 = .bool true := F 2 (by decide) 52 rfl
              have f3 : x53 = .bool true := F 3 (by decide) 53 rfl
              have f4 : x54 = nv nb hb' := F 4 (by decide) 54 rfl
              have f5 : x55 = .int .i64 0 := F 5 (by decide) 55 rfl
              have f6 : x56 = .bool true := F 6 (by decide) 56 rfl
              have f7 : x57 = .bool true := F 7 (by decide) 57 rfl
              have f8 : x58 = .bool true := F 8 (by decide) 58 rfl
              have f9 : x59 = nv na ha := F 9 (by decide) 59 rfl
              have f10 : x60 = .string key := F 10 (by decide) 60 rfl
              have f11 : x61 = nv nb hb' := F 11 (by decide) 61 rfl
              have f12 : Nv n x62 w := F 12 (by decide) 62 rfl
              have f13 : x63 = nv n h := F 13 (by decide) 63 rfl
              have f14 : x64 = .bool true := F 14 (by decide) 64 rfl
              have f15 : x65 = .bool true := F 15 (by decide) 65 rfl
              have f16 : x66 = .bool true := F 16 (by decide) 66 rfl
              have f17 : x67 = .pointer (some ⟨g4, 1, none⟩) := F 17 (by decide) 67 rfl
              have f18 : x68 = .slice ha.K na.keys.length ha.kc := F 18 (by decide) 68 rfl
              have f19 : x69 = .int .i64 (na.keys.length : Int) := F 19 (by decide) 69 rfl
              have f20 : x70 = .int .i64 ((n.keys.length : Int) / 2) := F 20 (by decide) 70 rfl
              have f21 : x71 = .bool true := F 21 (by decide) 71 rfl
              have f22 : x72 = .bool true := F 22 (by decide) 72 rfl
              have f23 : x73 = .bool true := F 23 (by decide) 73 rfl
              have f24 : x74 = .pointer (some ⟨g4 + 1, 1, none⟩) := F 24 (by decide) 74 rfl
              have f25 : x75 = .slice hb'.K nb.keys.length hb'.kc := F 25 (by decide) 75 rfl
              have f26 : x76 = .int .i64 (nb.keys.length : Int) := F 26 (by decide) 76 rfl
              have f27 : x77 = .pointer (some ⟨W.heap.size, 1, none⟩) := F 27 (by decide) 77 rfl
              have f28 : x78 = .slice h.K n.keys.length h.kc := F 28 (by decide) 78 rfl
              have f29 : x79 = .int .i64 (n.keys.length : Int) := F 29 (by decide) 79 rfl
              have f30 : x80 = .int .i64 ((n.keys.length : Int) / 2) := F 30 (by decide) 80 rfl
              have f31 : x81 = .int .i64 ((n.keys.length : Int) - (n.keys.length : Int) / 2) := F 31 (by decide) 81 rfl
              have f32 : x82 = .int .i64 0 := F 32 (by decide) 82 rfl
              have f33 : x83 = .int .i64 ((n.keys.length : Int) - (n.keys.length : Int) / 2) := F 33 (by decide) 83 rfl
              have f34 : x84 = .bool true := F 34 (by decide) 84 rfl
              have f35 : x85 = .bool true := F 35 (by decide) 85 rfl
              have f36 : x86 = .bool true := F 36 (by decide) 86 rfl
              have f37 : x87 = .string key := F 37 (by decide) 87 rfl
              have f38 : x88 = .pointer (some ⟨W.heap.size, 1, none⟩) := F 38 (by decide) 88 rfl
              have f39 : x89 = .slice (some ad) n.keys.length h.kc := F 39 (by decide) 89 rfl
              have f40 : x90 = .int .i64 ((n.keys.length : Int) / 2) := F 40 (by decide) 90 rfl
              have f41 : x91 = .pointer (some (ad.add (n.keys.length / 2))) := F 41 (by decide) 91 rfl
              have f42 : x92 = .string key := F 42 (by decide) 92 rfl
              have f43 : x93 = .bool true := F 43 (by decide) 93 rfl
              have f44 : x94 = .bool true := F 44 (by decide) 94 rfl
              subst f0
              subst f1
              subst f2
              subst f3
              subst f4
              subst f5
              subst f6
              subst f7
              subst f8
              subst f9
              subst f10
              subst f11
              subst f13
              subst f14
              subst f15
              subst f16
              subst f17
              subst f18
              subst f19
              subst f20
              subst f21
              subst f22
              subst f23
              subst f24
              subst f25
              subst f26
              subst f27
              subst f28
              subst f29
              subst f30
              subst f31
              subst f32
              subst f33
              subst f34
              subst f35
              subst f36
              subst f37
              subst f38
              subst f39
              subst f40
              subst f41
              subst f42
              subst f43
              subst f44
              clear F hF
              have hJ1 := hJ
              obtain ⟨⟨⟨c0, c1, c2, c3, _⟩, _, _⟩, ⟨d0, d1, d2, d3, _⟩, _, ⟨p0, p1, p2, p3, _⟩, _, _⟩ := hJ1
              go_simp
              refine hK _ _ ?_
              clear hK
              go_wp2_with fail
              go_ret
              exact ⟨rfl, hJ.1.2.2⟩
          · intro hq; exact absurd hq (by decide +kernel)
        | false =>
          have h2 : 2 ≤ n.keys.length := by omega
          have hq : n.keys.length / 2 < n.keys.length := by omega
          have hsp := split_false w3 n h s3.2.1 hsm hleaf (by omega)
          have HN := Lib.hid (show n.keys.length ≤ 100 from hfew.1)
          have hi2 : ((n.keys.length : Int) < 2) = False := by simp; omega
          have hwr : wrap64 ((n.keys.length : Int) / 2) = (n.keys.length : Int) / 2 := by have := hsm.k; unfold wrap64; omega
          have hwr2 : IntKind.i64.wrap ((n.keys.length : Int) / 2) = (n.keys.length : Int) / 2 := IntWalk.i64_in _ (by have := hsm.k; omega)
          obtain ⟨c0, c1, c2, c3, _⟩ := s3.1
          rw [hleaf] at c0
          unfold nv at hsp
          rw [hleaf] at hsp
          go_wp2_with fail
          refine hsp.mono ?_
          rintro e v4 ⟨va, vb, rfl, hva, hvb, b4⟩
          have s4 := s3.below b4
          clear hsp s3 b4 c0 c1 c2 c3
          obtain ⟨na, hna⟩ : ∃ m : Nd, m = ⟨false, n.keys.take (n.keys.length / 2), [], n.kids.take (n.keys.length / 2 + 1)⟩ := ⟨_, rfl⟩
          obtain ⟨nb, hnb⟩ : ∃ m : Nd, m = ⟨false, n.keys.drop (n.keys.length / 2 + 1), [], n.kids.drop (n.keys.length / 2 + 1)⟩ := ⟨_, rfl⟩
          rw [← hna] at hva
          rw [← hnb] at hvb
          have HOA := Lib.hid (show Ok na by rw [hna]; exact ok_bt hok hleaf _ hq)
          have HOB := Lib.hid (show Ok nb by rw [hnb]; exact ok_bd hok hleaf _ hq)
          have HSA := Lib.hid (show Small na by rw [hna]; exact small_part hsm (List.take_sublist _ _) (List.nil_sublist _) (List.take_sublist _ _))
          have HSB := Lib.hid (show Small nb by rw [hnb]; exact small_part hsm (List.drop_sublist _ _) (List.nil_sublist _) (List.drop_sublist _ _))
          have HSN := Lib.hid hsm
          have HLA := Lib.hid (show na.leaf = false by rw [hna])
          have HLB := Lib.hid (show nb.leaf = false by rw [hnb])
          have HKA := Lib.hid (show na.keys.length = n.keys.length / 2 by rw [hna, List.length_take]; omega)
          have HKB := Lib.hid (show nb.keys.length = n.keys.length - n.keys.length / 2 - 1 by rw [hnb, List.length_drop]; omega)
          have hjn : (⟨false, na.keys ++ n.keys[n.keys.length / 2] :: nb.keys, [], na.kids ++ nb.kids⟩ : Nd) = n := by rw [hna, hnb]; exact joined_b hok hleaf _ hq
          obtain ⟨ad, hKA', hbk, hck⟩ := strs_get s4.2.1.k (n.keys.length / 2) hq
          have HKAD := Lib.hid hKA'
          have HCK := Lib.hid (fun (w' : World) (hw : Below v4.heap.size v4 w') => (hw.cell (p := ad.add (n.keys.length / 2)) (by rw [blk_add]; exact hbk)).trans hck)
          generalize n.keys[n.keys.length / 2] = key at *
          have HJN := Lib.hid hjn
          have HH2 := Lib.hid h2
          have HLF := Lib.hid hleaf
          have HJN := Lib.hid hjn
          have HLF := Lib.hid hleaf
          clear hjn hna hnb hok hsm hfew htwo hKA' hbk hck h2 hq
          obtain ⟨ha, hva', la⟩ := hva
          obtain ⟨hb', hvb', lb⟩ := hvb
          subst hva' hvb'
          have tb := two_boxes s4 la lb
          obtain ⟨bxa, bxb, la6, lb6, s6⟩ := tb
          obtain ⟨v6, hv6⟩ : ∃ v, v = two v4 na ha nb hb' := ⟨_, rfl⟩
          rw [← hv6] at bxa bxb la6 lb6 s6
          have hb6 : Below v4.heap.size v4 v6 := by rw [hv6]; exact two_below v4 na ha nb hb'
          unfold two at hv6
          have HV6 := Lib.hid hv6
          clear hv6 la lb s4
          obtain ⟨c0, c1, c2, c3, _⟩ := s6.1
          rw [hleaf] at c0
          rw [HV6.out] at c0 c1 c2 c3
          go_wp2_with fail
          rw [← HV6.out]
          clear HV6 c0 c1 c2 c3
          generalize hg4 : v4.heap.size = g4 at *
          clear hleaf hi2 hwr hwr2
          have hJ0 : (fun w' : World => Begun W n h w' ∧ Bx w' g4 na ha ∧ Lay w' na ha ∧ Bx w' (g4 + 1) nb hb' ∧ Lay w' nb hb' ∧ Below g4 v4 w') (World.drew v6) := ⟨s6.below (Below.refl _ _).drew, bxa.below (Below.refl _ _).drew, la6.below (Below.refl _ _).drew, bxb.below (Below.refl _ _).drew, lb6.below (Below.refl _ _).drew, hb6.drew⟩
          clear s6 bxa la6 bxb lb6 hb6
          refine wp_region_any (by kernel_rfl) ?_
          change wpAny _ _ _ _ _ _ _ (World.drew _)
          refine Inv.inv_any (fun (i : Nat) (v : Value) (w : World) => match i with | 0 => v = nv na ha | 1 => v = .int .i64 0 | 2 => v = .bool true | 3 => v = .bool true | 4 => v = nv nb hb' | 5 => v = .int .i64 0 | 6 => v = .bool true | 7 => v = .bool true | 8 => v = .bool true | 9 => v = nv na ha | 10 => v = .string key | 11 => v = nv nb hb' | 12 => Nv n v w | 13 => v = nv n h | 14 => v = .bool true | 15 => v = .bool true | 16 => v = .bool true | 17 => v = .pointer (some ⟨g4, 1, none⟩) | 18 => v = .slice ha.K na.keys.length ha.kc | 19 => v = .int .i64 (na.keys.length : Int) | 20 => v = .int .i64 ((n.keys.length : Int) / 2) | 21 => v = .bool true | 22 => v = .bool true | 23 => v = .bool true | 24 => v = .pointer (some ⟨g4 + 1, 1, none⟩) | 25 => v = .slice hb'.K nb.keys.length hb'.kc | 26 => v = .int .i64 (nb.keys.length : Int) | 27 => v = .pointer (some ⟨W.heap.size, 1, none⟩) | 28 => v = .slice h.K n.keys.length h.kc | 29 => v = .int .i64 (n.keys.length : Int) | 30 => v = .int .i64 ((n.keys.length : Int) / 2) | 31 => v = .int .i64 ((n.keys.length : Int) - (n.keys.length : Int) / 2) | 32 => v = .int .i64 1 | 33 => v = .int .i64 ((n.keys.length : Int) - (n.keys.length : Int) / 2 - 1) | 34 => v = .bool true | 35 => v = .bool true | 36 => v = .bool true | 37 => v = .string key | 38 => v = .pointer (some ⟨W.heap.size, 1, none⟩) | 39 => v = .slice (some ad) n.keys.length h.kc | 40 => v = .int .i64 ((n.keys.length : Int) / 2) | 41 => v = .pointer (some (ad.add (n.keys.length / 2))) | 42 => v = .string key | 43 => v = .bool true | 44 => v = .bool true | _ => True) (fun w' : World => Begun W n h w' ∧ Bx w' g4 na ha ∧ Lay w' na ha ∧ Bx w' (g4 + 1) nb hb' ∧ Lay w' nb hb' ∧ Below g4 v4 w') _ 45 95 rfl rfl rfl (by kernel_rfl) (by kernel_rfl) hJ0 ?_ ?_ ?_ ?_
          · intro j v w w' h hb
            match j, h with
            | 0, h => exact h
            | 1, h => exact h
            | 2, h => exact h
            | 3, h => exact h
            | 4, h => exact h
            | 5, h => exact h
            | 6, h => exact h
            | 7, h => exact h
            | 8, h => exact h
            | 9, h => exact h
            | 10, h => exact h
            | 11, h => exact h
            | 12, h => exact Nv.below h hb
            | 13, h => exact h
            | 14, h => exact h
            | 15, h => exact h
            | 16, h => exact h
            | 17, h => exact h
            | 18, h => exact h
            | 19, h => exact h
            | 20, h => exact h
            | 21, h => exact h
            | 22, h => exact h
            | 23, h => exact h
            | 24, h => exact h
            | 25, h => exact h
            | 26, h => exact h
            | 27, h => exact h
            | 28, h => exact h
            | 29, h => exact h
            | 30, h => exact h
            | 31, h => exact h
            | 32, h => exact h
            | 33, h => exact h
            | 34, h => exact h
            | 35, h => exact h
            | 36, h => exact h
            | 37, h => exact h
            | 38, h => exact h
            | 39, h => exact h
            | 40, h => exact h
            | 41, h => exact h
            | 42, h => exact h
            | 43, h => exact h
            | 44, h => exact h
            | 45, _ => exact trivial
            | (_ + 46), _ => exact trivial
          · skip
            refine Inv.from_cons _ _ _ _ rfl (fun _ a w hJ hF F K hK => ?_) ?_
            · have hz : a.tmps.size = 95 := hF.size
              have e3 : a.tmps[3]? = some (.pointer (some ⟨g4, 0, none⟩)) := Inv2.some_slot (by rw [hz]; exact Nat.le_of_ble_eq_true rfl) (hF.slot 3 (by kernel_rfl))
              clear F hF hz
              have hJ1 := hJ
              obtain ⟨⟨⟨c0, c1, c2, c3, _⟩, _, _⟩, ⟨d0, d1, d2, d3, _⟩, _, ⟨p0, p1, p2, p3, _⟩, _, _⟩ := hJ1
              go_simp
              exact hK (nv na ha) _ hJ (Below.refl _ _) rfl
            refine Inv.from_cons _ _ _ _ rfl (fun _ a w hJ hF F K hK => ?_) ?_
            · have hz : a.tmps.size = 95 := hF.size
              have e50 : a.tmps[50]? = some (nv na ha) := Inv2.some_slot (by rw [hz]; exact Nat.le_of_ble_eq_true rfl) (F 0 (by kernel_rfl) 50 rfl)
              clear F hF hz
              have hJ1 := hJ
              obtain ⟨⟨⟨c0, c1, c2, c3, _⟩, _, _⟩, ⟨d0, d1, d2, d3, _⟩, _, ⟨p0, p1, p2, p3, _⟩, _, _⟩ := hJ1
              have hh := rcheck_any w na ha hJ.2.2.1 HSA.out 0 (.inr (.inr ⟨HOA.out.1, HOA.out.2, rfl⟩))
              go_simp
              (with_reducible refine hh.mono ?_)
              rintro e w' ⟨rfl, hb⟩
              go_simp
              exact hK _ _ ⟨hJ.1.below hb, hJ.2.1.below hb, hJ.2.2.1.below hb, hJ.2.2.2.1.below hb, hJ.2.2.2.2.1.below hb, bstep hJ.2.2.2.2.2 (Nat.le_of_lt hJ.2.1.lt) hb⟩ hb rfl
            refine Inv.from_cons _ _ _ _ rfl (fun _ a w hJ hF F K hK => ?_) ?_
            · have hz : a.tmps.size = 95 := hF.size
              have e51 : a.tmps[51]? = some (.int .i64 0) := Inv2.some_slot (by rw [hz]; exact Nat.le_of_ble_eq_true rfl) (F 1 (by kernel_rfl) 51 rfl)
              clear F hF hz
              have hJ1 := hJ
              obtain ⟨⟨⟨c0, c1, c2, c3, _⟩, _, _⟩, ⟨d0, d1, d2, d3, _⟩, _, ⟨p0, p1, p2, p3, _⟩, _, _⟩ := hJ1
              go_simp
              exact hK (.bool true) _ hJ (Below.refl _ _) rfl
            refine Inv.from_cons _ _ _ _ rfl (fun _ a w hJ hF F K hK => ?_) ?_
            · have hz : a.tmps.size = 95 := hF.size
              have e51 : a.tmps[51]? = some (.int .i64 0) := Inv2.some_slot (by rw [hz]; exact Nat.le_of_ble_eq_true rfl) (F 1 (by kernel_rfl) 51 rfl)
              have e52 : a.tmps[52]? = some (.bool true) := Inv2.some_slot (by rw [hz]; exact Nat.le_of_ble_eq_true rfl) (F 2 (by kernel_rfl) 52 rfl)
              clear F hF hz
              have hJ1 := hJ
              obtain ⟨⟨⟨c0, c1, c2, c3, _⟩, _, _⟩, ⟨d0, d1, d2, d3, _⟩, _, ⟨p0, p1, p2, p3, _⟩, _, _⟩ := hJ1
              go_simp
              exact hK (.bool true) _ hJ (Below.refl _ _) rfl
            refine Inv.from_cons _ _ _ _ rfl (fun _ a w hJ hF F K hK => ?_) ?_
            · have hz : a.tmps.size = 95 := hF.size
              have e5 : a.tmps[5]? = some (.pointer (some ⟨g4 + 1, 0, none⟩)) := Inv2.some_slot (by rw [hz]; exact Nat.le_of_ble_eq_true rfl) (hF.slot 5 (by kernel_rfl))
              have e53 : a.tmps[53]? = some (.bool true) := Inv2.some_slot (by rw [hz]; exact Nat.le_of_ble_eq_true rfl) (F 3 (by kernel_rfl) 53 rfl)
              clear F hF hz
              have hJ1 := hJ
              obtain ⟨⟨⟨c0, c1, c2, c3, _⟩, _, _⟩, ⟨d0, d1, d2, d3, _⟩, _, ⟨p0, p1, p2, p3, _⟩, _, _⟩ := hJ1
              go_simp
              exact hK (nv nb hb') _ hJ (Below.refl _ _) rfl
            refine Inv.from_cons _ _ _ _ rfl (fun _ a w hJ hF F K hK => ?_) ?_
            · have hz : a.tmps.size = 95 := hF.size
              have e53 : a.tmps[53]? = some (.bool true) := Inv2.some_slot (by rw [hz]; exact Nat.le_of_ble_eq_true rfl) (F 3 (by kernel_rfl) 53 rfl)
              have e54 : a.tmps[54]? = some (nv nb hb') := Inv2.some_slot (by rw [hz]; exact Nat.le_of_ble_eq_true rfl) (F 4 (by kernel_rfl) 54 rfl)
              clear F hF hz
              have hJ1 := hJ
              obtain ⟨⟨⟨c0, c1, c2, c3, _⟩, _, _⟩, ⟨d0, d1, d2, d3, _⟩, _, ⟨p0, p1, p2, p3, _⟩, _, _⟩ := hJ1
              have hh := rcheck_any w nb hb' hJ.2.2.2.2.1 HSB.out 0 (.inr (.inr ⟨HOB.out.1, HOB.out.2, rfl⟩))
              go_simp
              (with_reducible refine hh.mono ?_)
              rintro e w' ⟨rfl, hb⟩
              go_simp
              exact hK _ _ ⟨hJ.1.below hb, hJ.2.1.below hb, hJ.2.2.1.below hb, hJ.2.2.2.1.below hb, hJ.2.2.2.2.1.below hb, bstep hJ.2.2.2.2.2 (Nat.le_of_lt hJ.2.1.lt) hb⟩ hb rfl
            refine Inv.from_cons _ _ _ _ rfl (fun _ a w hJ hF F K hK => ?_) ?_
            · have hz : a.tmps.size = 95 := hF.size
              have e53 : a.tmps[53]? = some (.bool true) := Inv2.some_slot (by rw [hz]; exact Nat.le_of_ble_eq_true rfl) (F 3 (by kernel_rfl) 53 rfl)
              have e55 : a.tmps[55]? = some (.int .i64 0) := Inv2.some_slot (by rw [hz]; exact Nat.le_of_ble_eq_true rfl) (F 5 (by kernel_rfl) 55 rfl)
              clear F hF hz
              have hJ1 := hJ
              obtain ⟨⟨⟨c0, c1, c2, c3, _⟩, _, _⟩, ⟨d0, d1, d2, d3, _⟩, _, ⟨p0, p1, p2, p3, _⟩, _, _⟩ := hJ1
              go_simp
              exact hK (.bool true) _ hJ (Below.refl _ _) rfl
            refine Inv.from_cons _ _ _ _ rfl (fun _ a w hJ hF F K hK => ?_) ?_
            · have hz : a.tmps.size = 95 := hF.size
              have e53 : a.tmps[53]? = some (.bool true) := Inv2.some_slot (by rw [hz]; exact Nat.le_of_ble_eq_true rfl) (F 3 (by kernel_rfl) 53 rfl)
              have e56 : a.tmps[56]? = some (.bool true) := Inv2.some_slot (by rw [hz]; exact Nat.le_of_ble_eq_true rfl) (F 6 (by kernel_rfl) 56 rfl)
              clear F hF hz
              have hJ1 := hJ
              obtain ⟨⟨⟨c0, c1, c2, c3, _⟩, _, _⟩, ⟨d0, d1, d2, d3, _⟩, _, ⟨p0, p1, p2, p3, _⟩, _, _⟩ := hJ1
              go_simp
              exact hK (.bool true) _ hJ (Below.refl _ _) rfl
            refine Inv.from_cons _ _ _ _ rfl (fun _ a w hJ hF F K hK => ?_) ?_
            · have hz : a.tmps.size = 95 := hF.size
              have e55 : a.tmps[55]? = some (.int .i64 0) := Inv2.some_slot (by rw [hz]; exact Nat.le_of_ble_eq_true rfl) (F 5 (by kernel_rfl) 55 rfl)
              have e57 : a.tmps[57]? = some (.bool true) := Inv2.some_slot (by rw [hz]; exact Nat.le_of_ble_eq_true rfl) (F 7 (by kernel_rfl) 57 rfl)
              clear F hF hz
              have hJ1 := hJ
              obtain ⟨⟨⟨c0, c1, c2, c3, _⟩, _, _⟩, ⟨d0, d1, d2, d3, _⟩, _, ⟨p0, p1, p2, p3, _⟩, _, _⟩ := hJ1
              go_simp
              exact hK (.bool true) _ hJ (Below.refl _ _) rfl
            refine Inv.from_cons _ _ _ _ rfl (fun _ a w hJ hF F K hK => ?_) ?_
            · have hz : a.tmps.size = 95 := hF.size
              have e3 : a.tmps[3]? = some (.pointer (some ⟨g4, 0, none⟩)) := Inv2.some_slot (by rw [hz]; exact Nat.le_of_ble_eq_true rfl) (hF.slot 3 (by kernel_rfl))
              have e58 : a.tmps[58]? = some (.bool true) := Inv2.some_slot (by rw [hz]; exact Nat.le_of_ble_eq_true rfl) (F 8 (by kernel_rfl) 58 rfl)
              clear F hF hz
              have hJ1 := hJ
              obtain ⟨⟨⟨c0, c1, c2, c3, _⟩, _, _⟩, ⟨d0, d1, d2, d3, _⟩, _, ⟨p0, p1, p2, p3, _⟩, _, _⟩ := hJ1
              go_simp
              exact hK (nv na ha) _ hJ (Below.refl _ _) rfl
            refine Inv.from_cons _ _ _ _ rfl (fun _ a w hJ hF F K hK => ?_) ?_
            · have hz : a.tmps.size = 95 := hF.size
              have e4 : a.tmps[4]? = some (.string key) := Inv2.some_slot (by rw [hz]; exact Nat.le_of_ble_eq_true rfl) (hF.slot 4 (by kernel_rfl))
              have e58 : a.tmps[58]? = some (.bool true) := Inv2.some_slot (by rw [hz]; exact Nat.le_of_ble_eq_true rfl) (F 8 (by kernel_rfl) 58 rfl)
              clear F hF hz
              have hJ1 := hJ
              obtain ⟨⟨⟨c0, c1, c2, c3, _⟩, _, _⟩, ⟨d0, d1, d2, d3, _⟩, _, ⟨p0, p1, p2, p3, _⟩, _, _⟩ := hJ1
              go_simp
              exact hK (.string key) _ hJ (Below.refl _ _) rfl
            refine Inv.from_cons _ _ _ _ rfl (fun _ a w hJ hF F K hK => ?_) ?_
            · have hz : a.tmps.size = 95 := hF.size
              have e5 : a.tmps[5]? = some (.pointer (some ⟨g4 + 1, 0, none⟩)) := Inv2.some_slot (by rw [hz]; exact Nat.le_of_ble_eq_true rfl) (hF.slot 5 (by kernel_rfl))
              have e58 : a.tmps[58]? = some (.bool true) := Inv2.some_slot (by rw [hz]; exact Nat.le_of_ble_eq_true rfl) (F 8 (by kernel_rfl) 58 rfl)
              clear F hF hz
              have hJ1 := hJ
              obtain ⟨⟨⟨c0, c1, c2, c3, _⟩, _, _⟩, ⟨d0, d1, d2, d3, _⟩, _, ⟨p0, p1, p2, p3, _⟩, _, _⟩ := hJ1
              go_simp
              exact hK (nv nb hb') _ hJ (Below.refl _ _) rfl
            refine Inv.from_cons _ _ _ _ rfl (fun _ a w hJ hF F K hK => ?_) ?_
            · have hz : a.tmps.size = 95 := hF.size
              have e58 : a.tmps[58]? = some (.bool true) := Inv2.some_slot (by rw [hz]; exact Nat.le_of_ble_eq_true rfl) (F 8 (by kernel_rfl) 58 rfl)
              have e59 : a.tmps[59]? = some (nv na ha) := Inv2.some_slot (by rw [hz]; exact Nat.le_of_ble_eq_true rfl) (F 9 (by kernel_rfl) 59 rfl)
              have e60 : a.tmps[60]? = some (.string key) := Inv2.some_slot (by rw [hz]; exact Nat.le_of_ble_eq_true rfl) (F 10 (by kernel_rfl) 60 rfl)
              have e61 : a.tmps[61]? = some (nv nb hb') := Inv2.some_slot (by rw [hz]; exact Nat.le_of_ble_eq_true rfl) (F 11 (by kernel_rfl) 61 rfl)
              clear F hF hz
              have hJ1 := hJ
              obtain ⟨⟨⟨c0, c1, c2, c3, _⟩, _, _⟩, ⟨d0, d1, d2, d3, _⟩, _, ⟨p0, p1, p2, p3, _⟩, _, _⟩ := hJ1
              have hh := join_branch w na nb ha hb' key hJ.2.2.1 hJ.2.2.2.2.1 HSA.out HSB.out HLA.out HLB.out
              rw [HJN.out] at hh
              go_simp
              (with_reducible refine hh.mono ?_)
              rintro e w' ⟨v, rfl, hv, hb⟩
              go_simp
              exact hK _ _ ⟨hJ.1.below hb, hJ.2.1.below hb, hJ.2.2.1.below hb, hJ.2.2.2.1.below hb, hJ.2.2.2.2.1.below hb, bstep hJ.2.2.2.2.2 (Nat.le_of_lt hJ.2.1.lt) hb⟩ hb hv
            refine Inv.from_cons _ _ _ _ rfl (fun _ a w hJ hF F K hK => ?_) ?_
            · have hz : a.tmps.size = 95 := hF.size
              have e1 : a.tmps[1]? = some (.pointer (some ⟨W.heap.size, 0, none⟩)) := Inv2.some_slot (by rw [hz]; exact Nat.le_of_ble_eq_true rfl) (hF.slot 1 (by kernel_rfl))
              have e58 : a.tmps[58]? = some (.bool true) := Inv2.some_slot (by rw [hz]; exact Nat.le_of_ble_eq_true rfl) (F 8 (by kernel_rfl) 58 rfl)
              clear F hF hz
              have hJ1 := hJ
              obtain ⟨⟨⟨c0, c1, c2, c3, _⟩, _, _⟩, ⟨d0, d1, d2, d3, _⟩, _, ⟨p0, p1, p2, p3, _⟩, _, _⟩ := hJ1
              go_simp
              exact hK (nv n h) _ hJ (Below.refl _ _) rfl
            refine Inv.from_cons _ _ _ _ rfl (fun _ a w hJ hF F K hK => ?_) ?_
            · have hz : a.tmps.size = 95 := hF.size
              have e58 : a.tmps[58]? = some (.bool true) := Inv2.some_slot (by rw [hz]; exact Nat.le_of_ble_eq_true rfl) (F 8 (by kernel_rfl) 58 rfl)
              obtain ⟨x62, e62, f12⟩ : ∃ x, a.tmps[62]? = some x ∧ Nv n x w := ⟨_, Inv2.some_slot (by rw [hz]; exact Nat.le_of_ble_eq_true rfl) rfl, F 12 (by kernel_rfl) 62 rfl⟩
              have e63 : a.tmps[63]? = some (nv n h) := Inv2.some_slot (by rw [hz]; exact Nat.le_of_ble_eq_true rfl) (F 13 (by kernel_rfl) 63 rfl)
              clear F hF hz
              have hJ1 := hJ
              obtain ⟨⟨⟨c0, c1, c2, c3, _⟩, _, _⟩, ⟨d0, d1, d2, d3, _⟩, _, ⟨p0, p1, p2, p3, _⟩, _, _⟩ := hJ1
              obtain ⟨hj, rfl, lj⟩ := f12
              have hh := rsame_any w n n hj h lj hJ.1.2.1 HSN.out.k HSN.out.k HSN.out.v HSN.out.v HSN.out.d true ⟨fun _ => rfl, fun _ => rfl⟩
              go_simp
              (with_reducible refine hh.mono ?_)
              rintro e w' ⟨rfl, hb⟩
              go_simp
              exact hK _ _ ⟨hJ.1.below hb, hJ.2.1.below hb, hJ.2.2.1.below hb, hJ.2.2.2.1.below hb, hJ.2.2.2.2.1.below hb, bstep hJ.2.2.2.2.2 (Nat.le_of_lt hJ.2.1.lt) hb⟩ hb rfl
            refine Inv.from_cons _ _ _ _ rfl (fun _ a w hJ hF F K hK => ?_) ?_
            · have hz : a.tmps.size = 95 := hF.size
              have e58 : a.tmps[58]? = some (.bool true) := Inv2.some_slot (by rw [hz]; exact Nat.le_of_ble_eq_true rfl) (F 8 (by kernel_rfl) 58 rfl)
              have e64 : a.tmps[64]? = some (.bool true) := Inv2.some_slot (by rw [hz]; exact Nat.le_of_ble_eq_true rfl) (F 14 (by kernel_rfl) 64 rfl)
              clear F hF hz
              have hJ1 := hJ
              obtain ⟨⟨⟨c0, c1, c2, c3, _⟩, _, _⟩, ⟨d0, d1, d2, d3, _⟩, _, ⟨p0, p1, p2, p3, _⟩, _, _⟩ := hJ1
              go_simp
              exact hK (.bool true) _ hJ (Below.refl _ _) rfl
            refine Inv.from_cons _ _ _ _ rfl (fun _ a w hJ hF F K hK => ?_) ?_
            · have hz : a.tmps.size = 95 := hF.size
              have e64 : a.tmps[64]? = some (.bool true) := Inv2.some_slot (by rw [hz]; exact Nat.le_of_ble_eq_true rfl) (F 14 (by kernel_rfl) 64 rfl)
              have e65 : a.tmps[65]? = some (.bool true) := Inv2.some_slot (by rw [hz]; exact Nat.le_of_ble_eq_true rfl) (F 15 (by kernel_rfl) 65 rfl)
              clear F hF hz
              have hJ1 := hJ
              obtain ⟨⟨⟨c0, c1, c2, c3, _⟩, _, _⟩, ⟨d0, d1, d2, d3, _⟩, _, ⟨p0, p1, p2, p3, _⟩, _, _⟩ := hJ1
              go_simp
              exact hK (.bool true) _ hJ (Below.refl _ _) rfl
            refine Inv.from_cons _ _ _ _ rfl (fun _ a w hJ hF F K hK => ?_) ?_
            · have hz : a.tmps.size = 95 := hF.size
              have e3 : a.tmps[3]? = some (.pointer (some ⟨g4, 0, none⟩)) := Inv2.some_slot (by rw [hz]; exact Nat.le_of_ble_eq_true rfl) (hF.slot 3 (by kernel_rfl))
              have e66 : a.tmps[66]? = some (.bool true) := Inv2.some_slot (by rw [hz]; exact Nat.le_of_ble_eq_true rfl) (F 16 (by kernel_rfl) 66 rfl)
              clear F hF hz
              have hJ1 := hJ
              obtain ⟨⟨⟨c0, c1, c2, c3, _⟩, _, _⟩, ⟨d0, d1, d2, d3, _⟩, _, ⟨p0, p1, p2, p3, _⟩, _, _⟩ := hJ1
              go_simp
              exact hK (.pointer (some ⟨g4, 1, none⟩)) _ hJ (Below.refl _ _) rfl
            refine Inv.from_cons _ _ _ _ rfl (fun _ a w hJ hF F K hK => ?_) ?_
            · have hz : a.tmps.size = 95 := hF.size
              have e66 : a.tmps[66]? = some (.bool true) := Inv2.some_slot (by rw [hz]; exact Nat.le_of_ble_eq_true rfl) (F 16 (by kernel_rfl) 66 rfl)
              have e67 : a.tmps[67]? = some (.pointer (some ⟨g4, 1, none⟩)) := Inv2.some_slot (by rw [hz]; exact Nat.le_of_ble_eq_true rfl) (F 17 (by kernel_rfl) 67 rfl)
              clear F hF hz
              have hJ1 := hJ
              obtain ⟨⟨⟨c0, c1, c2, c3, _⟩, _, _⟩, ⟨d0, d1, d2, d3, _⟩, _, ⟨p0, p1, p2, p3, _⟩, _, _⟩ := hJ1
              go_simp
              exact hK (.slice ha.K na.keys.length ha.kc) _ hJ (Below.refl _ _) rfl
            refine Inv.from_cons _ _ _ _ rfl (fun _ a w hJ hF F K hK => ?_) ?_
            · have hz : a.tmps.size = 95 := hF.size
              have e66 : a.tmps[66]? = some (.bool true) := Inv2.some_slot (by rw [hz]; exact Nat.le_of_ble_eq_true rfl) (F 16 (by kernel_rfl) 66 rfl)
              have e68 : a.tmps[68]? = some (.slice ha.K na.keys.length ha.kc) := Inv2.some_slot (by rw [hz]; exact Nat.le_of_ble_eq_true rfl) (F 18 (by kernel_rfl) 68 rfl)
              clear F hF hz
              have hJ1 := hJ
              obtain ⟨⟨⟨c0, c1, c2, c3, _⟩, _, _⟩, ⟨d0, d1, d2, d3, _⟩, _, ⟨p0, p1, p2, p3, _⟩, _, _⟩ := hJ1
              go_simp
              exact hK (.int .i64 (na.keys.length : Int)) _ hJ (Below.refl _ _) rfl
            refine Inv.from_cons _ _ _ _ rfl (fun _ a w hJ hF F K hK => ?_) ?_
            · have hz : a.tmps.size = 95 := hF.size
              have e6 : a.tmps[6]? = some (.int .i64 ((n.keys.length : Int) / 2)) := Inv2.some_slot (by rw [hz]; exact Nat.le_of_ble_eq_true rfl) (hF.slot 6 (by kernel_rfl))
              have e66 : a.tmps[66]? = some (.bool true) := Inv2.some_slot (by rw [hz]; exact Nat.le_of_ble_eq_true rfl) (F 16 (by kernel_rfl) 66 rfl)
              clear F hF hz
              have hJ1 := hJ
              obtain ⟨⟨⟨c0, c1, c2, c3, _⟩, _, _⟩, ⟨d0, d1, d2, d3, _⟩, _, ⟨p0, p1, p2, p3, _⟩, _, _⟩ := hJ1
              go_simp
              exact hK (.int .i64 ((n.keys.length : Int) / 2)) _ hJ (Below.refl _ _) rfl
            refine Inv.from_cons _ _ _ _ rfl (fun _ a w hJ hF F K hK => ?_) ?_
            · have hz : a.tmps.size = 95 := hF.size
              have e66 : a.tmps[66]? = some (.bool true) := Inv2.some_slot (by rw [hz]; exact Nat.le_of_ble_eq_true rfl) (F 16 (by kernel_rfl) 66 rfl)
              have e69 : a.tmps[69]? = some (.int .i64 (na.keys.length : Int)) := Inv2.some_slot (by rw [hz]; exact Nat.le_of_ble_eq_true rfl) (F 19 (by kernel_rfl) 69 rfl)
              have e70 : a.tmps[70]? = some (.int .i64 ((n.keys.length : Int) / 2)) := Inv2.some_slot (by rw [hz]; exact Nat.le_of_ble_eq_true rfl) (F 20 (by kernel_rfl) 70 rfl)
              clear F hF hz
              have hJ1 := hJ
              obtain ⟨⟨⟨c0, c1, c2, c3, _⟩, _, _⟩, ⟨d0, d1, d2, d3, _⟩, _, ⟨p0, p1, p2, p3, _⟩, _, _⟩ := hJ1
              have hi1 : (na.keys.length : Int) = (n.keys.length : Int) / 2 := by have := HKA.out; omega
              go_simp
              exact hK (.bool true) _ hJ (Below.refl _ _) rfl
            refine Inv.from_cons _ _ _ _ rfl (fun _ a w hJ hF F K hK => ?_) ?_
            · have hz : a.tmps.size = 95 := hF.size
              have e66 : a.tmps[66]? = some (.bool true) := Inv2.some_slot (by rw [hz]; exact Nat.le_of_ble_eq_true rfl) (F 16 (by kernel_rfl) 66 rfl)
              have e71 : a.tmps[71]? = some (.bool true) := Inv2.some_slot (by rw [hz]; exact Nat.le_of_ble_eq_true rfl) (F 21 (by kernel_rfl) 71 rfl)
              clear F hF hz
              have hJ1 := hJ
              obtain ⟨⟨⟨c0, c1, c2, c3, _⟩, _, _⟩, ⟨d0, d1, d2, d3, _⟩, _, ⟨p0, p1, p2, p3, _⟩, _, _⟩ := hJ1
              go_simp
              exact hK (.bool true) _ hJ (Below.refl _ _) rfl
            refine Inv.from_cons _ _ _ _ rfl (fun _ a w hJ hF F K hK => ?_) ?_
            · have hz : a.tmps.size = 95 := hF.size
              have e66 : a.tmps[66]? = some (.bool true) := Inv2.some_slot (by rw [hz]; exact Nat.le_of_ble_eq_true rfl) (F 16 (by kernel_rfl) 66 rfl)
              have e72 : a.tmps[72]? = some (.bool true) := Inv2.some_slot (by rw [hz]; exact Nat.le_of_ble_eq_true rfl) (F 22 (by kernel_rfl) 72 rfl)
              clear F hF hz
              have hJ1 := hJ
              obtain ⟨⟨⟨c0, c1, c2, c3, _⟩, _, _⟩, ⟨d0, d1, d2, d3, _⟩, _, ⟨p0, p1, p2, p3, _⟩, _, _⟩ := hJ1
              go_simp
              exact hK (.bool true) _ hJ (Below.refl _ _) rfl
            refine Inv.from_cons _ _ _ _ rfl (fun _ a w hJ hF F K hK => ?_) ?_
            · have hz : a.tmps.size = 95 := hF.size
              have e5 : a.tmps[5]? = some (.pointer (some ⟨g4 + 1, 0, none⟩)) := Inv2.some_slot (by rw [hz]; exact Nat.le_of_ble_eq_true rfl) (hF.slot 5 (by kernel_rfl))
              have e73 : a.tmps[73]? = some (.bool true) := Inv2.some_slot (by rw [hz]; exact Nat.le_of_ble_eq_true rfl) (F 23 (by kernel_rfl) 73 rfl)
              clear F hF hz
              have hJ1 := hJ
              obtain ⟨⟨⟨c0, c1, c2, c3, _⟩, _, _⟩, ⟨d0, d1, d2, d3, _⟩, _, ⟨p0, p1, p2, p3, _⟩, _, _⟩ := hJ1
              go_simp
              exact hK (.pointer (some ⟨g4 + 1, 1, none⟩)) _ hJ (Below.refl _ _) rfl
            refine Inv.from_cons _ _ _ _ rfl (fun _ a w hJ hF F K hK => ?_) ?_
            · have hz : a.tmps.size = 95 := hF.size
              have e73 : a.tmps[73]? = some (.bool true) := Inv2.some_slot (by rw [hz]; exact Nat.le_of_ble_eq_true rfl) (F 23 (by kernel_rfl) 73 rfl)
              have e74 : a.tmps[74]? = some (.pointer (some ⟨g4 + 1, 1, none⟩)) := Inv2.some_slot (by rw [hz]; exact Nat.le_of_ble_eq_true rfl) (F 24 (by kernel_rfl) 74 rfl)
              clear F hF hz
              have hJ1 := hJ
              obtain ⟨⟨⟨c0, c1, c2, c3, _⟩, _, _⟩, ⟨d0, d1, d2, d3, _⟩, _, ⟨p0, p1, p2, p3, _⟩, _, _⟩ := hJ1
              go_simp
              exact hK (.slice hb'.K nb.keys.length hb'.kc) _ hJ (Below.refl _ _) rfl
            refine Inv.from_cons _ _ _ _ rfl (fun _ a w hJ hF F K hK => ?_) ?_
            · have hz : a.tmps.size = 95 := hF.size
              have e73 : a.tmps[73]? = some (.bool true) := Inv2.some_slot (by rw [hz]; exact Nat.le_of_ble_eq_true rfl) (F 23 (by kernel_rfl) 73 rfl)
              have e75 : a.tmps[75]? = some (.slice hb'.K nb.keys.length hb'.kc) := Inv2.some_slot (by rw [hz]; exact Nat.le_of_ble_eq_true rfl) (F 25 (by kernel_rfl) 75 rfl)
              clear F hF hz
              have hJ1 := hJ
              obtain ⟨⟨⟨c0, c1, c2, c3, _⟩, _, _⟩, ⟨d0, d1, d2, d3, _⟩, _, ⟨p0, p1, p2, p3, _⟩, _, _⟩ := hJ1
              go_simp
              exact hK (.int .i64 (nb.keys.length : Int)) _ hJ (Below.refl _ _) rfl
            refine Inv.from_cons _ _ _ _ rfl (fun _ a w hJ hF F K hK => ?_) ?_
            · have hz : a.tmps.size = 95 := hF.size
              have e1 : a.tmps[1]? = some (.pointer (some ⟨W.heap.size, 0, none⟩)) := Inv2.some_slot (by rw [hz]; exact Nat.le_of_ble_eq_true rfl) (hF.slot 1 (by kernel_rfl))
              have e73 : a.tmps[73]? = some (.bool true) := Inv2.some_slot (by rw [hz]; exact Nat.le_of_ble_eq_true rfl) (F 23 (by kernel_rfl) 73 rfl)
              clear F hF hz
              have hJ1 := hJ
              obtain ⟨⟨⟨c0, c1, c2, c3, _⟩, _, _⟩, ⟨d0, d1, d2, d3, _⟩, _, ⟨p0, p1, p2, p3, _⟩, _, _⟩ := hJ1
              go_simp
              exact hK (.pointer (some ⟨W.heap.size, 1, none⟩)) _ hJ (Below.refl _ _) rfl
            refine Inv.from_cons _ _ _ _ rfl (fun _ a w hJ hF F K hK => ?_) ?_
            · have hz : a.tmps.size = 95 := hF.size
              have e73 : a.tmps[73]? = some (.bool true) := Inv2.some_slot (by rw [hz]; exact Nat.le_of_ble_eq_true rfl) (F 23 (by kernel_rfl) 73 rfl)
              have e77 : a.tmps[77]? = some (.pointer (some ⟨W.heap.size, 1, none⟩)) := Inv2.some_slot (by rw [hz]; exact Nat.le_of_ble_eq_true rfl) (F 27 (by kernel_rfl) 77 rfl)
              clear F hF hz
              have hJ1 := hJ
              obtain ⟨⟨⟨c0, c1, c2, c3, _⟩, _, _⟩, ⟨d0, d1, d2, d3, _⟩, _, ⟨p0, p1, p2, p3, _⟩, _, _⟩ := hJ1
              go_simp
              exact hK (.slice h.K n.keys.length h.kc) _ hJ (Below.refl _ _) rfl
            refine Inv.from_cons _ _ _ _ rfl (fun _ a w hJ hF F K hK => ?_) ?_
            · have hz : a.tmps.size = 95 := hF.size
              have e73 : a.tmps[73]? = some (.bool true) := Inv2.some_slot (by rw [hz]; exact Nat.le_of_ble_eq_true rfl) (F 23 (by kernel_rfl) 73 rfl)
              have e78 : a.tmps[78]? = some (.slice h.K n.keys.length h.kc) := Inv2.some_slot (by rw [hz]; exact Nat.le_of_ble_eq_true rfl) (F 28 (by kernel_rfl) 78 rfl)
              clear F hF hz
              have hJ1 := hJ
              obtain ⟨⟨⟨c0, c1, c2, c3, _⟩, _, _⟩, ⟨d0, d1, d2, d3, _⟩, _, ⟨p0, p1, p2, p3, _⟩, _, _⟩ := hJ1
              go_simp
              exact hK (.int .i64 (n.keys.length : Int)) _ hJ (Below.refl _ _) rfl
            refine Inv.from_cons _ _ _ _ rfl (fun _ a w hJ hF F K hK => ?_) ?_
            · have hz : a.tmps.size = 95 := hF.size
              have e6 : a.tmps[6]? = some (.int .i64 ((n.keys.length : Int) / 2)) := Inv2.some_slot (by rw [hz]; exact Nat.le_of_ble_eq_true rfl) (hF.slot 6 (by kernel_rfl))
              have e73 : a.tmps[73]? = some (.bool true) := Inv2.some_slot (by rw [hz]; exact Nat.le_of_ble_eq_true rfl) (F 23 (by kernel_rfl) 73 rfl)
              clear F hF hz
              have hJ1 := hJ
              obtain ⟨⟨⟨c0, c1, c2, c3, _⟩, _, _⟩, ⟨d0, d1, d2, d3, _⟩, _, ⟨p0, p1, p2, p3, _⟩, _, _⟩ := hJ1
              go_simp
              exact hK (.int .i64 ((n.keys.length : Int) / 2)) _ hJ (Below.refl _ _) rfl
            refine Inv.from_cons _ _ _ _ rfl (fun _ a w hJ hF F K hK => ?_) ?_
            · have hz : a.tmps.size = 95 := hF.size
              have e73 : a.tmps[73]? = some (.bool true) := Inv2.some_slot (by rw [hz]; exact Nat.le_of_ble_eq_true rfl) (F 23 (by kernel_rfl) 73 rfl)
              have e79 : a.tmps[79]? = some (.int .i64 (n.keys.length : Int)) := Inv2.some_slot (by rw [hz]; exact Nat.le_of_ble_eq_true rfl) (F 29 (by kernel_rfl) 79 rfl)
              have e80 : a.tmps[80]? = some (.int .i64 ((n.keys.length : Int) / 2)) := Inv2.some_slot (by rw [hz]; exact Nat.le_of_ble_eq_true rfl) (F 30 (by kernel_rfl) 80 rfl)
              clear F hF hz
              have hJ1 := hJ
              obtain ⟨⟨⟨c0, c1, c2, c3, _⟩, _, _⟩, ⟨d0, d1, d2, d3, _⟩, _, ⟨p0, p1, p2, p3, _⟩, _, _⟩ := hJ1
              have hi1 : wrap64 ((n.keys.length : Int) - (n.keys.length : Int) / 2) = (n.keys.length : Int) - (n.keys.length : Int) / 2 := by have := HN.out; unfold wrap64; omega
              have hi2 : IntKind.i64.wrap ((n.keys.length : Int) - (n.keys.length : Int) / 2) = (n.keys.length : Int) - (n.keys.length : Int) / 2 := IntWalk.i64_in _ (by have := HN.out; omega)
              go_simp
              exact hK (.int .i64 ((n.keys.length : Int) - (n.keys.length : Int) / 2)) _ hJ (Below.refl _ _) rfl
            refine Inv.from_cons _ _ _ _ rfl (fun _ a w hJ hF F K hK => ?_) ?_
            · have hz : a.tmps.size = 95 := hF.size
              have e7 : a.tmps[7]? = some (.int .i64 1) := Inv2.some_slot (by rw [hz]; exact Nat.le_of_ble_eq_true rfl) (hF.slot 7 (by kernel_rfl))
              have e73 : a.tmps[73]? = some (.bool true) := Inv2.some_slot (by rw [hz]; exact Nat.le_of_ble_eq_true rfl) (F 23 (by kernel_rfl) 73 rfl)
              clear F hF hz
              have hJ1 := hJ
              obtain ⟨⟨⟨c0, c1, c2, c3, _⟩, _, _⟩, ⟨d0, d1, d2, d3, _⟩, _, ⟨p0, p1, p2, p3, _⟩, _, _⟩ := hJ1
              go_simp
              exact hK (.int .i64 1) _ hJ (Below.refl _ _) rfl
            refine Inv.from_cons _ _ _ _ rfl (fun _ a w hJ hF F K hK => ?_) ?_
            · have hz : a.tmps.size = 95 := hF.size
              have e73 : a.tmps[73]? = some (.bool true) := Inv2.some_slot (by rw [hz]; exact Nat.le_of_ble_eq_true rfl) (F 23 (by kernel_rfl) 73 rfl)
              have e81 : a.tmps[81]? = some (.int .i64 ((n.keys.length : Int) - (n.keys.length : Int) / 2)) := Inv2.some_slot (by rw [hz]; exact Nat.le_of_ble_eq_true rfl) (F 31 (by kernel_rfl) 81 rfl)
              have e82 : a.tmps[82]? = some (.int .i64 1) := Inv2.some_slot (by rw [hz]; exact Nat.le_of_ble_eq_true rfl) (F 32 (by kernel_rfl) 82 rfl)
              clear F hF hz
              have hJ1 := hJ
              obtain ⟨⟨⟨c0, c1, c2, c3, _⟩, _, _⟩, ⟨d0, d1, d2, d3, _⟩, _, ⟨p0, p1, p2, p3, _⟩, _, _⟩ := hJ1
              have hi1 : wrap64 ((n.keys.length : Int) - (n.keys.length : Int) / 2 - 1) = (n.keys.length : Int) - (n.keys.length : Int) / 2 - 1 := by have := HN.out; unfold wrap64; omega
              have hi2 : IntKind.i64.wrap ((n.keys.length : Int) - (n.keys.length : Int) / 2 - 1) = (n.keys.length : Int) - (n.keys.length : Int) / 2 - 1 := IntWalk.i64_in _ (by have := HN.out; omega)
              go_simp
              exact hK (.int .i64 ((n.keys.length : Int) - (n.keys.length : Int) / 2 - 1)) _ hJ (Below.refl _ _) rfl
            refine Inv.from_cons _ _ _ _ rfl (fun _ a w hJ hF F K hK => ?_) ?_
            · have hz : a.tmps.size = 95 := hF.size
              have e73 : a.tmps[73]? = some (.bool true) := Inv2.some_slot (by rw [hz]; exact Nat.le_of_ble_eq_true rfl) (F 23 (by kernel_rfl) 73 rfl)
              have e76 : a.tmps[76]? = some (.int .i64 (nb.keys.length : Int)) := Inv2.some_slot (by rw [hz]; exact Nat.le_of_ble_eq_true rfl) (F 26 (by kernel_rfl) 76 rfl)
              have e83 : a.tmps[83]? = some (.int .i64 ((n.keys.length : Int) - (n.keys.length : Int) / 2 - 1)) := Inv2.some_slot (by rw [hz]; exact Nat.le_of_ble_eq_true rfl) (F 33 (by kernel_rfl) 83 rfl)
              clear F hF hz
              have hJ1 := hJ
              obtain ⟨⟨⟨c0, c1, c2, c3, _⟩, _, _⟩, ⟨d0, d1, d2, d3, _⟩, _, ⟨p0, p1, p2, p3, _⟩, _, _⟩ := hJ1
              have hi1 : (nb.keys.length : Int) = (n.keys.length : Int) - (n.keys.length : Int) / 2 - 1 := by have := HKB.out; have := HH2.out; omega
              go_simp
              exact hK (.bool true) _ hJ (Below.refl _ _) rfl
            refine Inv.from_cons _ _ _ _ rfl (fun _ a w hJ hF F K hK => ?_) ?_
            · have hz : a.tmps.size = 95 := hF.size
              have e73 : a.tmps[73]? = some (.bool true) := Inv2.some_slot (by rw [hz]; exact Nat.le_of_ble_eq_true rfl) (F 23 (by kernel_rfl) 73 rfl)
              have e84 : a.tmps[84]? = some (.bool true) := Inv2.some_slot (by rw [hz]; exact Nat.le_of_ble_eq_true rfl) (F 34 (by kernel_rfl) 84 rfl)
              clear F hF hz
              have hJ1 := hJ
              obtain ⟨⟨⟨c0, c1, c2, c3, _⟩, _, _⟩, ⟨d0, d1, d2, d3, _⟩, _, ⟨p0, p1, p2, p3, _⟩, _, _⟩ := hJ1
              go_simp
              exact hK (.bool true) _ hJ (Below.refl _ _) rfl
            refine Inv.from_cons _ _ _ _ rfl (fun _ a w hJ hF F K hK => ?_) ?_
            · have hz : a.tmps.size = 95 := hF.size
              have e73 : a.tmps[73]? = some (.bool true) := Inv2.some_slot (by rw [hz]; exact Nat.le_of_ble_eq_true rfl) (F 23 (by kernel_rfl) 73 rfl)
              have e85 : a.tmps[85]? = some (.bool true) := Inv2.some_slot (by rw [hz]; exact Nat.le_of_ble_eq_true rfl) (F 35 (by kernel_rfl) 85 rfl)
              clear F hF hz
              have hJ1 := hJ
              obtain ⟨⟨⟨c0, c1, c2, c3, _⟩, _, _⟩, ⟨d0, d1, d2, d3, _⟩, _, ⟨p0, p1, p2, p3, _⟩, _, _⟩ := hJ1
              go_simp
              exact hK (.bool true) _ hJ (Below.refl _ _) rfl
            refine Inv.from_cons _ _ _ _ rfl (fun _ a w hJ hF F K hK => ?_) ?_
            · have hz : a.tmps.size = 95 := hF.size
              have e4 : a.tmps[4]? = some (.string key) := Inv2.some_slot (by rw [hz]; exact Nat.le_of_ble_eq_true rfl) (hF.slot 4 (by kernel_rfl))
              have e86 : a.tmps[86]? = some (.bool true) := Inv2.some_slot (by rw [hz]; exact Nat.le_of_ble_eq_true rfl) (F 36 (by kernel_rfl) 86 rfl)
              clear F hF hz
              have hJ1 := hJ
              obtain ⟨⟨⟨c0, c1, c2, c3, _⟩, _, _⟩, ⟨d0, d1, d2, d3, _⟩, _, ⟨p0, p1, p2, p3, _⟩, _, _⟩ := hJ1
              go_simp
              exact hK (.string key) _ hJ (Below.refl _ _) rfl
            refine Inv.from_cons _ _ _ _ rfl (fun _ a w hJ hF F K hK => ?_) ?_
            · have hz : a.tmps.size = 95 := hF.size
              have e1 : a.tmps[1]? = some (.pointer (some ⟨W.heap.size, 0, none⟩)) := Inv2.some_slot (by rw [hz]; exact Nat.le_of_ble_eq_true rfl) (hF.slot 1 (by kernel_rfl))
              have e86 : a.tmps[86]? = some (.bool true) := Inv2.some_slot (by rw [hz]; exact Nat.le_of_ble_eq_true rfl) (F 36 (by kernel_rfl) 86 rfl)
              clear F hF hz
              have hJ1 := hJ
              obtain ⟨⟨⟨c0, c1, c2, c3, _⟩, _, _⟩, ⟨d0, d1, d2, d3, _⟩, _, ⟨p0, p1, p2, p3, _⟩, _, _⟩ := hJ1
              go_simp
              exact hK (.pointer (some ⟨W.heap.size, 1, none⟩)) _ hJ (Below.refl _ _) rfl
            refine Inv.from_cons _ _ _ _ rfl (fun _ a w hJ hF F K hK => ?_) ?_
            · have hz : a.tmps.size = 95 := hF.size
              have e86 : a.tmps[86]? = some (.bool true) := Inv2.some_slot (by rw [hz]; exact Nat.le_of_ble_eq_true rfl) (F 36 (by kernel_rfl) 86 rfl)
              have e88 : a.tmps[88]? = some (.pointer (some ⟨W.heap.size, 1, none⟩)) := Inv2.some_slot (by rw [hz]; exact Nat.le_of_ble_eq_true rfl) (F 38 (by kernel_rfl) 88 rfl)
              clear F hF hz
              have hJ1 := hJ
              obtain ⟨⟨⟨c0, c1, c2, c3, _⟩, _, _⟩, ⟨d0, d1, d2, d3, _⟩, _, ⟨p0, p1, p2, p3, _⟩, _, _⟩ := hJ1
              rw [HKAD.out] at c1
              go_simp
              exact hK (.slice (some ad) n.keys.length h.kc) _ hJ (Below.refl _ _) rfl
            refine Inv.from_cons _ _ _ _ rfl (fun _ a w hJ hF F K hK => ?_) ?_
            · have hz : a.tmps.size = 95 := hF.size
              have e6 : a.tmps[6]? = some (.int .i64 ((n.keys.length : Int) / 2)) := Inv2.some_slot (by rw [hz]; exact Nat.le_of_ble_eq_true rfl) (hF.slot 6 (by kernel_rfl))
              have e86 : a.tmps[86]? = some (.bool true) := Inv2.some_slot (by rw [hz]; exact Nat.le_of_ble_eq_true rfl) (F 36 (by kernel_rfl) 86 rfl)
              clear F hF hz
              have hJ1 := hJ
              obtain ⟨⟨⟨c0, c1, c2, c3, _⟩, _, _⟩, ⟨d0, d1, d2, d3, _⟩, _, ⟨p0, p1, p2, p3, _⟩, _, _⟩ := hJ1
              go_simp
              exact hK (.int .i64 ((n.keys.length : Int) / 2)) _ hJ (Below.refl _ _) rfl
            refine Inv.from_cons _ _ _ _ rfl (fun _ a w hJ hF F K hK => ?_) ?_
            · have hz : a.tmps.size = 95 := hF.size
              have e86 : a.tmps[86]? = some (.bool true) := Inv2.some_slot (by rw [hz]; exact Nat.le_of_ble_eq_true rfl) (F 36 (by kernel_rfl) 86 rfl)
              have e89 : a.tmps[89]? = some (.slice (some ad) n.keys.length h.kc) := Inv2.some_slot (by rw [hz]; exact Nat.le_of_ble_eq_true rfl) (F 39 (by kernel_rfl) 89 rfl)
              have e90 : a.tmps[90]? = some (.int .i64 ((n.keys.length : Int) / 2)) := Inv2.some_slot (by rw [hz]; exact Nat.le_of_ble_eq_true rfl) (F 40 (by kernel_rfl) 90 rfl)
              clear F hF hz
              have hJ1 := hJ
              obtain ⟨⟨⟨c0, c1, c2, c3, _⟩, _, _⟩, ⟨d0, d1, d2, d3, _⟩, _, ⟨p0, p1, p2, p3, _⟩, _, _⟩ := hJ1
              have i0 : (0 : Int) ≤ (n.keys.length : Int) / 2 := by omega
              have i1 : (n.keys.length : Int) / 2 < (n.keys.length : Int) := by have := HH2.out; omega
              have i2 : ((n.keys.length : Int) / 2).toNat = n.keys.length / 2 := by omega
              go_simp
              exact hK (.pointer (some (ad.add (n.keys.length / 2)))) _ hJ (Below.refl _ _) rfl
            refine Inv.from_cons _ _ _ _ rfl (fun _ a w hJ hF F K hK => ?_) ?_
            · have hz : a.tmps.size = 95 := hF.size
              have e86 : a.tmps[86]? = some (.bool true) := Inv2.some_slot (by rw [hz]; exact Nat.le_of_ble_eq_true rfl) (F 36 (by kernel_rfl) 86 rfl)
              have e91 : a.tmps[91]? = some (.pointer (some (ad.add (n.keys.length / 2)))) := Inv2.some_slot (by rw [hz]; exact Nat.le_of_ble_eq_true rfl) (F 41 (by kernel_rfl) 91 rfl)
              clear F hF hz
              have hJ1 := hJ
              obtain ⟨⟨⟨c0, c1, c2, c3, _⟩, _, _⟩, ⟨d0, d1, d2, d3, _⟩, _, ⟨p0, p1, p2, p3, _⟩, _, _⟩ := hJ1
              have hcell := HCK.out w hJ.2.2.2.2.2
              go_simp
              exact hK (.string key) _ hJ (Below.refl _ _) rfl
            refine Inv.from_cons _ _ _ _ rfl (fun _ a w hJ hF F K hK => ?_) ?_
            · have hz : a.tmps.size = 95 := hF.size
              have e86 : a.tmps[86]? = some (.bool true) := Inv2.some_slot (by rw [hz]; exact Nat.le_of_ble_eq_true rfl) (F 36 (by kernel_rfl) 86 rfl)
              have e87 : a.tmps[87]? = some (.string key) := Inv2.some_slot (by rw [hz]; exact Nat.le_of_ble_eq_true rfl) (F 37 (by kernel_rfl) 87 rfl)
              have e92 : a.tmps[92]? = some (.string key) := Inv2.some_slot (by rw [hz]; exact Nat.le_of_ble_eq_true rfl) (F 42 (by kernel_rfl) 92 rfl)
              clear F hF hz
              have hJ1 := hJ
              obtain ⟨⟨⟨c0, c1, c2, c3, _⟩, _, _⟩, ⟨d0, d1, d2, d3, _⟩, _, ⟨p0, p1, p2, p3, _⟩, _, _⟩ := hJ1
              go_simp
              exact hK (.bool true) _ hJ (Below.refl _ _) rfl
            refine Inv.from_cons _ _ _ _ rfl (fun _ a w hJ hF F K hK => ?_) ?_
            · have hz : a.tmps.size = 95 := hF.size
              have e86 : a.tmps[86]? = some (.bool true) := Inv2.some_slot (by rw [hz]; exact Nat.le_of_ble_eq_true rfl) (F 36 (by kernel_rfl) 86 rfl)
              have e93 : a.tmps[93]? = some (.bool true) := Inv2.some_slot (by rw [hz]; exact Nat.le_of_ble_eq_true rfl) (F 43 (by kernel_rfl) 93 rfl)
              clear F hF hz
              have hJ1 := hJ
              obtain ⟨⟨⟨c0, c1, c2, c3, _⟩, _, _⟩, ⟨d0, d1, d2, d3, _⟩, _, ⟨p0, p1, p2, p3, _⟩, _, _⟩ := hJ1
              go_simp
              exact hK (.bool true) _ hJ (Below.refl _ _) rfl
            refine Inv.from_skip _ _ _ _ rfl ?_
            exact Inv.from_end _ _ _ _ (by decide +kernel)
          · intro o ho a w hJ hF F K hK
            injection (show some _ = some o from ho) with ho
            subst ho
            obtain ⟨⟨l⟩, ds⟩ := a
            have hsz : l.length = 95 := hF.size
            obtain ⟨x0, x1, x2, x3, x4, x5, x6, x7, x8, x9, x10, x11, x12, x13, x14, x15, x16, x17, x18, x19, x20, x21, x22, x23, x24, x25, x26, x27, x28, x29, x30, x31, x32, x33, x34, x35, x36, x37, x38, x39, x40, x41, x42, x43, x44, x45, x46, x47, x48, x49, x50, x51, x52, x53, x54, x55, x56, x57, x58, x59, x60, x61, x62, x63, x64, x65, x66, x67, x68, x69, x70, x71, x72, x73, x74, x75, x76, x77, x78, x79, x80, x81, x82, x83, x84, x85, x86, x87, x88, x89, x90, x91, x92, x93, x94, rfl⟩ := Lits.lit95 l hsz
            · skip
              obtain rfl : ds = [] := hF.defers
              obtain rfl : x1 = .pointer (some ⟨W.heap.size, 0, none⟩) := hF.slot 1 (by kernel_rfl)
              obtain rfl : x3 = .pointer (some ⟨g4, 0, none⟩) := hF.slot 3 (by kernel_rfl)
              obtain rfl : x4 = .string key := hF.slot 4 (by kernel_rfl)
              obtain rfl : x5 = .pointer (some ⟨g4 + 1, 0, none⟩) := hF.slot 5 (by kernel_rfl)
              obtain rfl : x6 = .int .i64 ((n.keys.length : Int) / 2) := hF.slot 6 (by kernel_rfl)
              obtain rfl : x7 = .int .i64 1 := hF.slot 7 (by kernel_rfl)
              have f0 : x50 = nv na ha := F 0 (by decide) 50 rfl
              have f1 : x51 = .int .i64 0 := F 1 (by decide) 51 rfl
              have f2 : x52 = .bool true := F 2 (by decide) 52 rfl
              have f3 : x53 = .bool true := F 3 (by decide) 53 rfl
              have f4 : x54 = nv nb hb' := F 4 (by decide) 54 rfl
              have f5 : x55 = .int .i64 0 := F 5 (by decide) 55 rfl
              have f6 : x56 = .bool true := F 6 (by decide) 56 rfl
              have f7 : x57 = .bool true := F 7 (by decide) 57 rfl
              have f8 : x58 = .bool true := F 8 (by decide) 58 rfl
              have f9 : x59 = nv na ha := F 9 (by decide) 59 rfl
              have f10 : x60 = .string key := F 10 (by decide) 60 rfl
              have f11 : x61 = nv nb hb' := F 11 (by decide) 61 rfl
              have f12 : Nv n x62 w := F 12 (by decide) 62 rfl
              have f13 : x63 = nv n h := F 13 (by decide) 63 rfl
              have f14 : x64 = .bool true := F 14 (by decide) 64 rfl
              have f15 : x65 = .bool true := F 15 (by decide) 65 rfl
              have f16 : x66 = .bool true := F 16 (by decide) 66 rfl
              have f17 : x67 = .pointer (some ⟨g4, 1, none⟩) := F 17 (by decide) 67 rfl
              have f18 : x68 = .slice ha.K na.keys.length ha.kc := F 18 (by decide) 68 rfl
              have f19 : x69 = .int .i64 (na.keys.length : Int) := F 19 (by decide) 69 rfl
              have f20 : x70 = .int .i64 ((n.keys.length : Int) / 2) := F 20 (by decide) 70 rfl
              have f21 : x71 = .bool true := F 21 (by decide) 71 rfl
              have f22 : x72 = .bool true := F 22 (by decide) 72 rfl
              have f23 : x73 = .bool true := F 23 (by decide) 73 rfl
              have f24 : x74 = .pointer (some ⟨g4 + 1, 1, none⟩) := F 24 (by decide) 74 rfl
              have f25 : x75 = .slice hb'.K nb.keys.length hb'.kc := F 25 (by decide) 75 rfl
              have f26 : x76 = .int .i64 (nb.keys.length : Int) := F 26 (by decide) 76 rfl
              have f27 : x77 = .pointer (some ⟨W.heap.size, 1, none⟩) := F 27 (by decide) 77 rfl
              have f28 : x78 = .slice h.K n.keys.length h.kc := F 28 (by decide) 78 rfl
              have f29 : x79 = .int .i64 (n.keys.length : Int) := F 29 (by decide) 79 rfl
              have f30 : x80 = .int .i64 ((n.keys.length : Int) / 2) := F 30 (by decide) 80 rfl
              have f31 : x81 = .int .i64 ((n.keys.length : Int) - (n.keys.length : Int) / 2) := F 31 (by decide) 81 rfl
              have f32 : x82 = .int .i64 1 := F 32 (by decide) 82 rfl
              have f33 : x83 = .int .i64 ((n.keys.length : Int) - (n.keys.length : Int) / 2 - 1) := F 33 (by decide) 83 rfl
              have f34 : x84 = .bool true := F 34 (by decide) 84 rfl
              have f35 : x85 = .bool true := F 35 (by decide) 85 rfl
              have f36 : x86 = .bool true := F 36 (by decide) 86 rfl
              have f37 : x87 = .string key := F 37 (by decide) 87 rfl
              have f38 : x88 = .pointer (some ⟨W.heap.size, 1, none⟩) := F 38 (by decide) 88 rfl
              have f39 : x89 = .slice (some ad) n.keys.length h.kc := F 39 (by decide) 89 rfl
              have f40 : x90 = .int .i64 ((n.keys.length : Int) / 2) := F 40 (by decide) 90 rfl
              have f41 : x91 = .pointer (some (ad.add (n.keys.length / 2))) := F 41 (by decide) 91 rfl
              have f42 : x92 = .string key := F 42 (by decide) 92 rfl
              have f43 : x93 = .bool true := F 43 (by decide) 93 rfl
              have f44 : x94 = .bool true := F 44 (by decide) 94 rfl
              subst f0
              subst f1
              subst f2
              subst f3
              subst f4
              subst f5
              subst f6
              subst f7
              subst f8
              subst f9
              subst f10
              subst f11
              subst f13
              subst f14
              subst f15
              subst f16
              subst f17
              subst f18
              subst f19
              subst f20
              subst f21
              subst f22
              subst f23
              subst f24
              subst f25
              subst f26
              subst f27
              subst f28
              subst f29
              subst f30
              subst f31
              subst f32
              subst f33
              subst f34
              subst f35
              subst f36
              subst f37
              subst f38
              subst f39
              subst f40
              subst f41
              subst f42
              subst f43
              subst f44
              clear F hF
              have hJ1 := hJ
              obtain ⟨⟨⟨c0, c1, c2, c3, _⟩, _, _⟩, ⟨d0, d1, d2, d3, _⟩, _, ⟨p0, p1, p2, p3, _⟩, _, _⟩ := hJ1
              go_simp
              refine hK _ _ ?_
              clear hK
              go_wp2_with fail
              go_ret
              exact ⟨rfl, hJ.1.2.2⟩
          · intro hq; exact absurd hq (by decide +kernel)
    · have he2 : (er != 0) = true := by simpa using he0
      clear he0 HER hfew hsm
      go_wp2_with fail
      refine (awake_any w3).mono ?_
      rintro e w9 ⟨rfl, b9⟩
      have s9 := s3.below b9
      go_wp2_with fail
      go_ret
      exact ⟨rfl, s9.2.2⟩
end Go.Proofs.Ytpcpfcllgadghaa.NodeSplits
