/- The contract of the document's Put of a leaf. -/
import Derived.Test.YtpcpfcllgadghaaNodeIns
import Derived.Test.YtpcpfcllgadghaaFrames
namespace Go.Proofs.Ytpcpfcllgadghaa.NodeRefPut
open Go.RowKit Base NodePlain NodeRead NodeSlice NodeCheck NodeBox NodeFind NodeLeaf NodeStore NodeWant NodeDuo NodeIns

set_option maxRecDepth 100000 in
set_option maxHeartbeats 25600000 in
theorem rput_lf (W : World) (l : Ps) (n : Nd) (h : Hd) (key value : ByteArray) (hn : n = lfn l) {c : Nat} (hf : Lf c l) (hc : c ≤ 1000) (hl : Lay W n h) (hks : key.size ≤ maxLen) :
    Calls Try.prog 27 #[nv n h, .string key, .string value] W fun e w' => ∃ v, e = .returned v ∧ Lv (ins key value l) v w' ∧ Below W.heap.size W w' := by
  have hs : Small n := by rw [hn]; exact hf.small hc
  have hleaf : n.leaf = true := by rw [hn]; rfl
  have hkl : n.keys.length = l.length := by rw [hn]; simp [lfn, ks]
  have hvl : n.vals.length = l.length := by rw [hn]; simp [lfn, vs]
  have hke : ∀ (k : Nat) (_ : k < n.keys.length) (_ : k < l.length), n.keys[k] = (l[k]).1 := by intro k q q2; subst hn; simp [lfn, ks]
  have hve : ∀ (k : Nat) (_ : k < n.vals.length) (_ : k < l.length), n.vals[k] = (l[k]).2 := by intro k q q2; subst hn; simp [lfn, vs]
  have b1 := box_below W n h
  have hbx := bx_new W n h
  have b2 := al (box W n h) (.cells #[.bool false, .slice none 0 0, .slice none 0 0, .slice none 0 0] 25)
  have hat := at_new (box W n h) #[.bool false, .slice none 0 0, .slice none 0 0, .slice none 0 0] 25
  have s1 : (box W n h).heap.size = W.heap.size + 1 := by simp
  rw [s1] at hat
  have hbx2 := hbx.below b2
  have hl2 := (hl.below b1).below b2
  have hB2 := Below.step b1 b2
  have hsz : ((box W n h).alloc (.cells #[.bool false, .slice none 0 0, .slice none 0 0, .slice none 0 0] 25)).heap.size = W.heap.size + 1 + 1 := by simp
  obtain ⟨W1, hW1⟩ : ∃ v, v = (box W n h).alloc (.cells #[.bool false, .slice none 0 0, .slice none 0 0, .slice none 0 0] 25) := ⟨_, rfl⟩
  rw [← hW1] at hat hbx2 hl2 hB2 hsz
  have hout0 := out_new W1
  obtain ⟨v2, hv2⟩ : ∃ v, v = W1.alloc (.cells #[.bool true, .slice none 0 0, .slice none 0 0, .slice none 0 0] 25) := ⟨_, rfl⟩
  rw [← hv2, hsz] at hout0
  rw [hW1] at hv2
  unfold box at hv2
  rw [hleaf] at hv2
  have HV2 := Lib.hid hv2
  have HBX := Lib.hid (fun w' (q : Below (W.heap.size + 1 + 1) W1 w') => hbx2.below (by rw [hsz]; exact q))
  have HLY := Lib.hid (fun w' (q : Below (W.heap.size + 1 + 1) W1 w') => hl2.below (by rw [hsz]; exact q))
  have HAT := Lib.hid (fun w' (q : Below (W.heap.size + 1 + 1) W1 w') => hat.below (by rw [hsz]; exact q))
  have HB := Lib.hid (fun w' (q : Below (W.heap.size + 1 + 1) W1 w') => show Below W.heap.size W w' from bstep hB2 hB2.size (by rw [hsz]; exact q))
  have HSZ1 := Lib.hid hsz
  have HKL := Lib.hid hkl
  have HVL := Lib.hid hvl
  have HKE := Lib.hid hke
  have HVE := Lib.hid hve
  have HSM := Lib.hid hs
  have HF := Lib.hid hf
  have HLL := Lib.hid (show l.length ≤ 1000 by have := hf.len; omega)
  have hkn : n.keys.length ≤ 1000 := hs.k
  have hout0' := Lib.hid hout0
  clear hv2 hW1 hat hbx2 hl2 hB2 hsz b1 hbx b2 s1 hl hs hf hn hkl hvl hke hve hout0
  have HKS := Lib.hid hks
  clear hks
  go_enter Try.func27, Try.ntmps27
  go_wp2_with fail
  rw [← HV2.out]
  clear HV2 hleaf
  generalize hg : W.heap.size = g at *
  have HG := Lib.hid hg
  clear hg
  generalize hgw : g + 1 + 1 = gw at *
  have HGW := Lib.hid hgw
  clear hgw
  go_loopw [8, 9] (fun d i wr => ∃ (k : Nat) (dn : Bool) (acc : Ps), k ≤ n.keys.length ∧ Acc key value (l.take k) dn acc ∧ d = .bool dn ∧ i = .int .i64 k ∧ Out gw W1 acc wr) (fun _ i _ => n.keys.length - (intOf i).toNat)
  case atStart => exact ⟨0, false, [], by omega, acc_nil key value, rfl, rfl, hout0'.out⟩
  case round =>
    clear hout0'
    obtain ⟨k, dn, acc, hk, hacc, rfl, rfl, hout⟩ := hrel
    have HACC := Lib.hid hacc
    clear hacc
    by_cases hlt : k < n.keys.length
    · have hltl : k < l.length := by have := HKL.out; omega
      have hltv : k < n.vals.length := by have := HVL.out; omega
      obtain ⟨p1, p2, hp⟩ : ∃ p1 p2, l[k] = (p1, p2) := ⟨_, _, rfl⟩
      have hk1 := HKE.out k hlt hltl
      have hk2 := HVE.out k hltv hltl
      have hps := HF.out.sz _ (List.getElem_mem hltl)
      have HTK := Lib.hid (show l.take (k + 1) = l.take k ++ [(p1, p2)] by rw [List.take_succ_eq_append_getElem hltl, hp])
      have HUT := Lib.hid (show Up (ks (l.take k ++ [(p1, p2)])) by rw [← HTK.out]; exact List.Pairwise.sublist ((List.take_sublist _ _).map _) HF.out.up)
      rw [hp] at hk1 hk2 hps
      obtain ⟨ad, hKA, hb1, hc1⟩ := strs_get (HLY.out W1 (Below.refl _ _)).k k hlt
      obtain ⟨bd, hVA, hb2, hc2⟩ := strs_get (HLY.out W1 (Below.refl _ _)).v k hltv
      rw [hk1] at hc1
      rw [hk2] at hc2
      have HXK := Lib.hid (fun (w' : World) (q : Below gw W1 w') => show w'.cell? ⟨g, 1, none⟩ = some (.slice (some ad) n.keys.length h.kc) ∧ w'.cell? ⟨g, 2, none⟩ = some (.slice (some bd) n.vals.length h.vc) ∧ w'.cell? (ad.add k) = some (.string p1) ∧ w'.cell? (bd.add k) = some (.string p2) by
        have hx := HBX.out w' q
        have hz := HSZ1.out
        exact ⟨by rw [← hKA]; exact hx.c1, by rw [← hVA]; exact hx.c2, (q.cell (p := ad.add k) (by rw [blk_add]; omega)).trans hc1, (q.cell (p := bd.add k) (by rw [blk_add]; omega)).trans hc2⟩)
      have HPS := Lib.hid (show p1.size ≤ maxLen by have := hps.1; simp only [maxLen] at *; omega)
      clear hKA hVA hb1 hb2 hc1 hc2 hk1 hk2 hps hp hltl
      cases dn with
      | true =>
        have heqb : (p1.toList == key.toList) = false := by rw [Str.ba_beq, decide_eq_false_iff_not]; exact acc_ne HACC.out HUT.out
        obtain ⟨c1, c2, c3, c4⟩ := HXK.out wr hout.b
        go_wp2_with fail
        clear c1 c2 c3 c4 heqb
        have HLE := Lib.hid (show (acc).length ≤ 50000 by have h1 := HACC.out.len; have h2 := HLL.out; rw [List.length_take] at h1; (try simp only [List.length_append, List.length_singleton]); omega)
        obtain ⟨KA, kca, XA, xca, SK, SX, hw8, hSK, hSX⟩ := hout.gen
        have HSK := Lib.hid hSK
        have HSX := Lib.hid hSX
        have HSL := Lib.hid (show SK.length ≤ 100000 ∧ SX.length ≤ 100000 by rw [hSK, hSX]; simp only [strs, ks, vs, List.length_map]; have := HLE.out; omega)
        clear hSK hSX hout
        have hJ0 := fun a0 : Act => Duo.start (a1 := 8) (s1 := 19) (a2 := 17) (s2 := 21) (d1 := 61) (d2 := 70) (u := .string p1) (v := .string p2) (hw8.below (Below.refl _ _).drew) a0
        clear hw8
        refine wp_region_any (by kernel_rfl) ?_
        change wpAny _ _ _ _ _ _ _ (World.drew _)
        refine Inv4.inv_any (fun (i : Nat) (v : Value) (w : World) => match i with | 0 => v = .pointer (some ⟨gw, 1, none⟩) | 1 => v = .slice KA SK.length kca | 2 => v = .pointer (some ⟨g, 1, none⟩) | 3 => v = .slice (some ad) n.keys.length h.kc | 4 => v = .int .i64 (k : Int) | 5 => v = .pointer (some (ad.add k)) | 6 => v = .string p1 | 7 => Bs gw KA XA (.string p1) v w | 9 => v = .pointer (some ⟨gw, 2, none⟩) | 10 => v = .slice XA SX.length xca | 11 => v = .pointer (some ⟨g, 2, none⟩) | 12 => v = .slice (some bd) n.vals.length h.vc | 13 => v = .int .i64 (k : Int) | 14 => v = .pointer (some (bd.add k)) | 15 => v = .string p2 | 16 => Bs gw XA KA (.string p2) v w | 18 => v = .pointer (some ⟨gw, 1, none⟩) | 20 => v = .pointer (some ⟨gw, 2, none⟩) | _ => True) (Rd gw KA XA) (fun q a w => Duo gw W1 8 19 17 21 61 70 1 2 KA kca SK (.string p1) XA xca SX (.string p2) (World.drew wr).heap.size q a w) _ ?_ 88 rfl rfl rfl (by kernel_rfl) (hJ0 _) ?_ ?_
        · intro j v w w' h hb
          match j, h with
          | 0, h => exact h
          | 1, h => exact h
          | 2, h => exact h
          | 3, h => exact h
          | 4, h => exact h
          | 5, h => exact h
          | 6, h => exact h
          | 7, h => exact Bs.last h hb
          | 9, h => exact h
          | 10, h => exact h
          | 11, h => exact h
          | 12, h => exact h
          | 13, h => exact h
          | 14, h => exact h
          | 15, h => exact h
          | 16, h => exact Bs.last h hb.swap
          | 18, h => exact h
          | 20, h => exact h
          | 8, _ => exact trivial
          | 17, _ => exact trivial
          | 19, _ => exact trivial
          | 21, _ => exact trivial
          | (_ + 22), _ => exact trivial
        · skip
          refine Inv4.from_cons _ _ _ _ rfl (fun q a w hq hD hJ hF F K hK => ?_) ?_
          · have hz : a.tmps.size = 88 := hF.size
            have e7 : a.tmps[7]? = some (.pointer (some ⟨gw, 0, none⟩)) := Inv2.some_slot (by rw [hz]; exact Nat.le_of_ble_eq_true rfl) (hF.slot 7 (by kernel_rfl))
            clear F hF
            clear hz
            go_simp
            exact hK (.pointer (some ⟨gw, 1, none⟩)) _ rfl ((rd_below (Below.refl _ _))) (hJ.quiet (Below.refl _ _) rfl rfl rfl rfl (by decide) (by decide))
          refine Inv4.from_cons _ _ _ _ rfl (fun q a w hq hD hJ hF F K hK => ?_) ?_
          · have hz : a.tmps.size = 88 := hF.size
            have e53 : a.tmps[53]? = some (.pointer (some ⟨gw, 1, none⟩)) := Inv2.some_slot (by rw [hz]; exact Nat.le_of_ble_eq_true rfl) ((F 0 (by kernel_rfl)).2 53 rfl)
            clear F hF
            clear hz
            have hld := hJ.ld (hD.no hq (by kernel_rfl))
            go_simp
            exact hK (.slice KA SK.length kca) _ rfl (rd_below (Below.refl _ _)) (hJ.quiet (Below.refl _ _) rfl rfl rfl rfl (by decide) (by decide))
          refine Inv4.from_cons _ _ _ _ rfl (fun q a w hq hD hJ hF F K hK => ?_) ?_
          · have hz : a.tmps.size = 88 := hF.size
            have e3 : a.tmps[3]? = some (.pointer (some ⟨g, 0, none⟩)) := Inv2.some_slot (by rw [hz]; exact Nat.le_of_ble_eq_true rfl) (hF.slot 3 (by kernel_rfl))
            clear F hF
            clear hz
            go_simp
            exact hK (.pointer (some ⟨g, 1, none⟩)) _ rfl ((rd_below (Below.refl _ _))) (hJ.quiet (Below.refl _ _) rfl rfl rfl rfl (by decide) (by decide))
          refine Inv4.from_cons _ _ _ _ rfl (fun q a w hq hD hJ hF F K hK => ?_) ?_
          · have hz : a.tmps.size = 88 := hF.size
            have e55 : a.tmps[55]? = some (.pointer (some ⟨g, 1, none⟩)) := Inv2.some_slot (by rw [hz]; exact Nat.le_of_ble_eq_true rfl) ((F 2 (by kernel_rfl)).2 55 rfl)
            clear F hF
            clear hz
            obtain ⟨c1, c2, c3, c4⟩ := HXK.out w hJ.below
            go_simp
            exact hK (.slice (some ad) n.keys.length h.kc) _ rfl (rd_below (Below.refl _ _)) (hJ.quiet (Below.refl _ _) rfl rfl rfl rfl (by decide) (by decide))
          refine Inv4.from_cons _ _ _ _ rfl (fun q a w hq hD hJ hF F K hK => ?_) ?_
          · have hz : a.tmps.size = 88 := hF.size
            have e9 : a.tmps[9]? = some (.int .i64 (k : Int)) := Inv2.some_slot (by rw [hz]; exact Nat.le_of_ble_eq_true rfl) (hF.slot 9 (by kernel_rfl))
            clear F hF
            clear hz
            go_simp
            exact hK (.int .i64 (k : Int)) _ rfl ((rd_below (Below.refl _ _))) (hJ.quiet (Below.refl _ _) rfl rfl rfl rfl (by decide) (by decide))
          refine Inv4.from_cons _ _ _ _ rfl (fun q a w hq hD hJ hF F K hK => ?_) ?_
          · have hz : a.tmps.size = 88 := hF.size
            have e56 : a.tmps[56]? = some (.slice (some ad) n.keys.length h.kc) := Inv2.some_slot (by rw [hz]; exact Nat.le_of_ble_eq_true rfl) ((F 3 (by kernel_rfl)).2 56 rfl)
            have e57 : a.tmps[57]? = some (.int .i64 (k : Int)) := Inv2.some_slot (by rw [hz]; exact Nat.le_of_ble_eq_true rfl) ((F 4 (by kernel_rfl)).2 57 rfl)
            clear F hF
            clear hz
            go_simp
            exact hK (.pointer (some (ad.add k))) _ rfl ((rd_below (Below.refl _ _))) (hJ.quiet (Below.refl _ _) rfl rfl rfl rfl (by decide) (by decide))
          refine Inv4.from_cons _ _ _ _ rfl (fun q a w hq hD hJ hF F K hK => ?_) ?_
          · have hz : a.tmps.size = 88 := hF.size
            have e58 : a.tmps[58]? = some (.pointer (some (ad.add k))) := Inv2.some_slot (by rw [hz]; exact Nat.le_of_ble_eq_true rfl) ((F 5 (by kernel_rfl)).2 58 rfl)
            clear F hF
            clear hz
            obtain ⟨c1, c2, c3, c4⟩ := HXK.out w hJ.below
            go_simp
            exact hK (.string p1) _ rfl (rd_below (Below.refl _ _)) (hJ.quiet (Below.refl _ _) rfl rfl rfl rfl (by decide) (by decide))
          refine Inv4.from_cons _ _ _ _ rfl (fun q a w hq hD hJ hF F K hK => ?_) ?_
          · have hz : a.tmps.size = 88 := hF.size
            have e59 : a.tmps[59]? = some (.string p1) := Inv2.some_slot (by rw [hz]; exact Nat.le_of_ble_eq_true rfl) ((F 6 (by kernel_rfl)).2 59 rfl)
            clear F hF
            clear hz
            have hnew := hJ.new (.string p1)
            go_simp
            exact hK _ _ hnew (rd_below (al _ _)) (hJ.quiet (al _ _) rfl rfl rfl rfl (by decide) (by decide))
          refine Inv4.from_cons _ _ _ _ rfl (fun q a w hq hD hJ hF F K hK => ?_) ?_
          · have hz : a.tmps.size = 88 := hF.size
            have e54 : a.tmps[54]? = some (.slice KA SK.length kca) := Inv2.some_slot (by rw [hz]; exact Nat.le_of_ble_eq_true rfl) ((F 1 (by kernel_rfl)).2 54 rfl)
            obtain ⟨x60, e60, f7⟩ : ∃ x, a.tmps[60]? = some x ∧ Bs gw KA XA (.string p1) x w := ⟨_, Inv2.some_slot (by rw [hz]; exact Nat.le_of_ble_eq_true rfl) rfl, (F 7 (by kernel_rfl)).2 60 rfl⟩
            clear F hF
            have hsz : 61 < a.tmps.size := by rw [hz]; exact Nat.le_of_ble_eq_true rfl
            clear hz
            obtain ⟨g8, K2, kc2, w', rfl, hrun, hR, hJ2⟩ := hJ.app hq (hD.no hq (by kernel_rfl)) hsz (by decide) rfl rfl rfl f7 rfl SK.length rfl HSL.out.1
            refine NodeEnt.step_append_d (d := 61) rfl rfl (.tmp 54) (.tmp 60) 22 22 rfl (vs := .slice KA SK.length kca) (vx := .slice (some ⟨g8, 0, none⟩) 1 1) (by simp [Act.eval, e54]) (by simp [Act.eval, e60]) hrun ?_
            exact hK _ _ trivial hR hJ2
          refine Inv4.from_cons _ _ _ _ rfl (fun q a w hq hD hJ hF F K hK => ?_) ?_
          · have hz : a.tmps.size = 88 := hF.size
            have e7 : a.tmps[7]? = some (.pointer (some ⟨gw, 0, none⟩)) := Inv2.some_slot (by rw [hz]; exact Nat.le_of_ble_eq_true rfl) (hF.slot 7 (by kernel_rfl))
            clear F hF
            clear hz
            go_simp
            exact hK (.pointer (some ⟨gw, 2, none⟩)) _ rfl ((rd_below (Below.refl _ _))) (hJ.quiet (Below.refl _ _) rfl rfl rfl rfl (by decide) (by decide))
          refine Inv4.from_cons _ _ _ _ rfl (fun q a w hq hD hJ hF F K hK => ?_) ?_
          · have hz : a.tmps.size = 88 := hF.size
            have e62 : a.tmps[62]? = some (.pointer (some ⟨gw, 2, none⟩)) := Inv2.some_slot (by rw [hz]; exact Nat.le_of_ble_eq_true rfl) ((F 9 (by kernel_rfl)).2 62 rfl)
            clear F hF
            clear hz
            have hld := hJ.swap.ld (hD.no hq (by kernel_rfl))
            go_simp
            exact hK (.slice XA SX.length xca) _ rfl (rd_below (Below.refl _ _)) (hJ.quiet (Below.refl _ _) rfl rfl rfl rfl (by decide) (by decide))
          refine Inv4.from_cons _ _ _ _ rfl (fun q a w hq hD hJ hF F K hK => ?_) ?_
          · have hz : a.tmps.size = 88 := hF.size
            have e3 : a.tmps[3]? = some (.pointer (some ⟨g, 0, none⟩)) := Inv2.some_slot (by rw [hz]; exact Nat.le_of_ble_eq_true rfl) (hF.slot 3 (by kernel_rfl))
            clear F hF
            clear hz
            go_simp
            exact hK (.pointer (some ⟨g, 2, none⟩)) _ rfl ((rd_below (Below.refl _ _))) (hJ.quiet (Below.refl _ _) rfl rfl rfl rfl (by decide) (by decide))
          refine Inv4.from_cons _ _ _ _ rfl (fun q a w hq hD hJ hF F K hK => ?_) ?_
          · have hz : a.tmps.size = 88 := hF.size
            have e64 : a.tmps[64]? = some (.pointer (some ⟨g, 2, none⟩)) := Inv2.some_slot (by rw [hz]; exact Nat.le_of_ble_eq_true rfl) ((F 11 (by kernel_rfl)).2 64 rfl)
            clear F hF
            clear hz
            obtain ⟨c1, c2, c3, c4⟩ := HXK.out w hJ.below
            go_simp
            exact hK (.slice (some bd) n.vals.length h.vc) _ rfl (rd_below (Below.refl _ _)) (hJ.quiet (Below.refl _ _) rfl rfl rfl rfl (by decide) (by decide))
          refine Inv4.from_cons _ _ _ _ rfl (fun q a w hq hD hJ hF F K hK => ?_) ?_
          · have hz : a.tmps.size = 88 := hF.size
            have e9 : a.tmps[9]? = some (.int .i64 (k : Int)) := Inv2.some_slot (by rw [hz]; exact Nat.le_of_ble_eq_true rfl) (hF.slot 9 (by kernel_rfl))
            clear F hF
            clear hz
            go_simp
            exact hK (.int .i64 (k : Int)) _ rfl ((rd_below (Below.refl _ _))) (hJ.quiet (Below.refl _ _) rfl rfl rfl rfl (by decide) (by decide))
          refine Inv4.from_cons _ _ _ _ rfl (fun q a w hq hD hJ hF F K hK => ?_) ?_
          · have hz : a.tmps.size = 88 := hF.size
            have e65 : a.tmps[65]? = some (.slice (some bd) n.vals.length h.vc) := Inv2.some_slot (by rw [hz]; exact Nat.le_of_ble_eq_true rfl) ((F 12 (by kernel_rfl)).2 65 rfl)
            have e66 : a.tmps[66]? = some (.int .i64 (k : Int)) := Inv2.some_slot (by rw [hz]; exact Nat.le_of_ble_eq_true rfl) ((F 13 (by kernel_rfl)).2 66 rfl)
            clear F hF
            clear hz
            go_simp
            exact hK (.pointer (some (bd.add k))) _ rfl ((rd_below (Below.refl _ _))) (hJ.quiet (Below.refl _ _) rfl rfl rfl rfl (by decide) (by decide))
          refine Inv4.from_cons _ _ _ _ rfl (fun q a w hq hD hJ hF F K hK => ?_) ?_
          · have hz : a.tmps.size = 88 := hF.size
            have e67 : a.tmps[67]? = some (.pointer (some (bd.add k))) := Inv2.some_slot (by rw [hz]; exact Nat.le_of_ble_eq_true rfl) ((F 14 (by kernel_rfl)).2 67 rfl)
            clear F hF
            clear hz
            obtain ⟨c1, c2, c3, c4⟩ := HXK.out w hJ.below
            go_simp
            exact hK (.string p2) _ rfl (rd_below (Below.refl _ _)) (hJ.quiet (Below.refl _ _) rfl rfl rfl rfl (by decide) (by decide))
          refine Inv4.from_cons _ _ _ _ rfl (fun q a w hq hD hJ hF F K hK => ?_) ?_
          · have hz : a.tmps.size = 88 := hF.size
            have e68 : a.tmps[68]? = some (.string p2) := Inv2.some_slot (by rw [hz]; exact Nat.le_of_ble_eq_true rfl) ((F 15 (by kernel_rfl)).2 68 rfl)
            clear F hF
            clear hz
            have hnew := hJ.swap.new (.string p2)
            go_simp
            exact hK _ _ hnew (rd_below (al _ _)) (hJ.quiet (al _ _) rfl rfl rfl rfl (by decide) (by decide))
          refine Inv4.from_cons _ _ _ _ rfl (fun q a w hq hD hJ hF F K hK => ?_) ?_
          · have hz : a.tmps.size = 88 := hF.size
            have e63 : a.tmps[63]? = some (.slice XA SX.length xca) := Inv2.some_slot (by rw [hz]; exact Nat.le_of_ble_eq_true rfl) ((F 10 (by kernel_rfl)).2 63 rfl)
            obtain ⟨x69, e69, f16⟩ : ∃ x, a.tmps[69]? = some x ∧ Bs gw XA KA (.string p2) x w := ⟨_, Inv2.some_slot (by rw [hz]; exact Nat.le_of_ble_eq_true rfl) rfl, (F 16 (by kernel_rfl)).2 69 rfl⟩
            clear F hF
            have hsz : 70 < a.tmps.size := by rw [hz]; exact Nat.le_of_ble_eq_true rfl
            clear hz
            obtain ⟨g8, K2, kc2, w', rfl, hrun, hR, hJ2⟩ := hJ.swap.app hq (hD.no hq (by kernel_rfl)) hsz (by decide) rfl rfl rfl f16 rfl SX.length rfl HSL.out.2
            refine NodeEnt.step_append_d (d := 70) rfl rfl (.tmp 63) (.tmp 69) 22 22 rfl (vs := .slice XA SX.length xca) (vx := .slice (some ⟨g8, 0, none⟩) 1 1) (by simp [Act.eval, e63]) (by simp [Act.eval, e69]) hrun ?_
            exact hK _ _ trivial hR.swap hJ2.swap
          refine Inv4.from_cons _ _ _ _ rfl (fun q a w hq hD hJ hF F K hK => ?_) ?_
          · have hz : a.tmps.size = 88 := hF.size
            have e7 : a.tmps[7]? = some (.pointer (some ⟨gw, 0, none⟩)) := Inv2.some_slot (by rw [hz]; exact Nat.le_of_ble_eq_true rfl) (hF.slot 7 (by kernel_rfl))
            have e53 : a.tmps[53]? = some (.pointer (some ⟨gw, 1, none⟩)) := Inv2.some_slot (by rw [hz]; exact Nat.le_of_ble_eq_true rfl) ((F 0 (by kernel_rfl)).2 53 rfl)
            have e54 : a.tmps[54]? = some (.slice KA SK.length kca) := Inv2.some_slot (by rw [hz]; exact Nat.le_of_ble_eq_true rfl) ((F 1 (by kernel_rfl)).2 54 rfl)
            have e55 : a.tmps[55]? = some (.pointer (some ⟨g, 1, none⟩)) := Inv2.some_slot (by rw [hz]; exact Nat.le_of_ble_eq_true rfl) ((F 2 (by kernel_rfl)).2 55 rfl)
            have e56 : a.tmps[56]? = some (.slice (some ad) n.keys.length h.kc) := Inv2.some_slot (by rw [hz]; exact Nat.le_of_ble_eq_true rfl) ((F 3 (by kernel_rfl)).2 56 rfl)
            have e57 : a.tmps[57]? = some (.int .i64 (k : Int)) := Inv2.some_slot (by rw [hz]; exact Nat.le_of_ble_eq_true rfl) ((F 4 (by kernel_rfl)).2 57 rfl)
            have e58 : a.tmps[58]? = some (.pointer (some (ad.add k))) := Inv2.some_slot (by rw [hz]; exact Nat.le_of_ble_eq_true rfl) ((F 5 (by kernel_rfl)).2 58 rfl)
            have e59 : a.tmps[59]? = some (.string p1) := Inv2.some_slot (by rw [hz]; exact Nat.le_of_ble_eq_true rfl) ((F 6 (by kernel_rfl)).2 59 rfl)
            obtain ⟨x60, e60, f7⟩ : ∃ x, a.tmps[60]? = some x ∧ Bs gw KA XA (.string p1) x w := ⟨_, Inv2.some_slot (by rw [hz]; exact Nat.le_of_ble_eq_true rfl) rfl, (F 7 (by kernel_rfl)).2 60 rfl⟩
            have e62 : a.tmps[62]? = some (.pointer (some ⟨gw, 2, none⟩)) := Inv2.some_slot (by rw [hz]; exact Nat.le_of_ble_eq_true rfl) ((F 9 (by kernel_rfl)).2 62 rfl)
            have e63 : a.tmps[63]? = some (.slice XA SX.length xca) := Inv2.some_slot (by rw [hz]; exact Nat.le_of_ble_eq_true rfl) ((F 10 (by kernel_rfl)).2 63 rfl)
            clear F hF
            clear hz
            go_simp
            exact hK (.pointer (some ⟨gw, 1, none⟩)) _ rfl ((rd_below (Below.refl _ _))) (hJ.quiet (Below.refl _ _) rfl rfl rfl rfl (by decide) (by decide))
          refine Inv4.from_cons _ _ _ _ rfl (fun q a w hq hD hJ hF F K hK => ?_) ?_
          · have hz : a.tmps.size = 88 := hF.size
            have e53 : a.tmps[53]? = some (.pointer (some ⟨gw, 1, none⟩)) := Inv2.some_slot (by rw [hz]; exact Nat.le_of_ble_eq_true rfl) ((F 0 (by kernel_rfl)).2 53 rfl)
            have e54 : a.tmps[54]? = some (.slice KA SK.length kca) := Inv2.some_slot (by rw [hz]; exact Nat.le_of_ble_eq_true rfl) ((F 1 (by kernel_rfl)).2 54 rfl)
            have e55 : a.tmps[55]? = some (.pointer (some ⟨g, 1, none⟩)) := Inv2.some_slot (by rw [hz]; exact Nat.le_of_ble_eq_true rfl) ((F 2 (by kernel_rfl)).2 55 rfl)
            have e56 : a.tmps[56]? = some (.slice (some ad) n.keys.length h.kc) := Inv2.some_slot (by rw [hz]; exact Nat.le_of_ble_eq_true rfl) ((F 3 (by kernel_rfl)).2 56 rfl)
            have e57 : a.tmps[57]? = some (.int .i64 (k : Int)) := Inv2.some_slot (by rw [hz]; exact Nat.le_of_ble_eq_true rfl) ((F 4 (by kernel_rfl)).2 57 rfl)
            have e58 : a.tmps[58]? = some (.pointer (some (ad.add k))) := Inv2.some_slot (by rw [hz]; exact Nat.le_of_ble_eq_true rfl) ((F 5 (by kernel_rfl)).2 58 rfl)
            have e59 : a.tmps[59]? = some (.string p1) := Inv2.some_slot (by rw [hz]; exact Nat.le_of_ble_eq_true rfl) ((F 6 (by kernel_rfl)).2 59 rfl)
            obtain ⟨x60, e60, f7⟩ : ∃ x, a.tmps[60]? = some x ∧ Bs gw KA XA (.string p1) x w := ⟨_, Inv2.some_slot (by rw [hz]; exact Nat.le_of_ble_eq_true rfl) rfl, (F 7 (by kernel_rfl)).2 60 rfl⟩
            have b8 := (F 8 (by kernel_rfl)).1
            have e62 : a.tmps[62]? = some (.pointer (some ⟨gw, 2, none⟩)) := Inv2.some_slot (by rw [hz]; exact Nat.le_of_ble_eq_true rfl) ((F 9 (by kernel_rfl)).2 62 rfl)
            have e63 : a.tmps[63]? = some (.slice XA SX.length xca) := Inv2.some_slot (by rw [hz]; exact Nat.le_of_ble_eq_true rfl) ((F 10 (by kernel_rfl)).2 63 rfl)
            have e71 : a.tmps[71]? = some (.pointer (some ⟨gw, 1, none⟩)) := Inv2.some_slot (by rw [hz]; exact Nat.le_of_ble_eq_true rfl) ((F 18 (by kernel_rfl)).2 71 rfl)
            clear F hF
            obtain ⟨K2, kc2, hv⟩ := hJ.val b8
            have e61 : a.tmps[61]? = some (.slice K2 (SK.length + 1) kc2) := Inv2.some_slot (by rw [hz]; exact Nat.le_of_ble_eq_true rfl) hv
            clear hz
            obtain ⟨⟨u0, hc0⟩, hz0⟩ := hJ.cell
            obtain ⟨hR, hJ2⟩ := hJ.st rfl rfl rfl (by decide) (by decide) (by decide) (by decide) hv undef
            clear hv
            go_simp
            exact hK undef _ trivial hR hJ2
          refine Inv4.from_cons _ _ _ _ rfl (fun q a w hq hD hJ hF F K hK => ?_) ?_
          · have hz : a.tmps.size = 88 := hF.size
            have e7 : a.tmps[7]? = some (.pointer (some ⟨gw, 0, none⟩)) := Inv2.some_slot (by rw [hz]; exact Nat.le_of_ble_eq_true rfl) (hF.slot 7 (by kernel_rfl))
            have e53 : a.tmps[53]? = some (.pointer (some ⟨gw, 1, none⟩)) := Inv2.some_slot (by rw [hz]; exact Nat.le_of_ble_eq_true rfl) ((F 0 (by kernel_rfl)).2 53 rfl)
            have e54 : a.tmps[54]? = some (.slice KA SK.length kca) := Inv2.some_slot (by rw [hz]; exact Nat.le_of_ble_eq_true rfl) ((F 1 (by kernel_rfl)).2 54 rfl)
            have e55 : a.tmps[55]? = some (.pointer (some ⟨g, 1, none⟩)) := Inv2.some_slot (by rw [hz]; exact Nat.le_of_ble_eq_true rfl) ((F 2 (by kernel_rfl)).2 55 rfl)
            have e56 : a.tmps[56]? = some (.slice (some ad) n.keys.length h.kc) := Inv2.some_slot (by rw [hz]; exact Nat.le_of_ble_eq_true rfl) ((F 3 (by kernel_rfl)).2 56 rfl)
            have e57 : a.tmps[57]? = some (.int .i64 (k : Int)) := Inv2.some_slot (by rw [hz]; exact Nat.le_of_ble_eq_true rfl) ((F 4 (by kernel_rfl)).2 57 rfl)
            have e58 : a.tmps[58]? = some (.pointer (some (ad.add k))) := Inv2.some_slot (by rw [hz]; exact Nat.le_of_ble_eq_true rfl) ((F 5 (by kernel_rfl)).2 58 rfl)
            have e59 : a.tmps[59]? = some (.string p1) := Inv2.some_slot (by rw [hz]; exact Nat.le_of_ble_eq_true rfl) ((F 6 (by kernel_rfl)).2 59 rfl)
            obtain ⟨x60, e60, f7⟩ : ∃ x, a.tmps[60]? = some x ∧ Bs gw KA XA (.string p1) x w := ⟨_, Inv2.some_slot (by rw [hz]; exact Nat.le_of_ble_eq_true rfl) rfl, (F 7 (by kernel_rfl)).2 60 rfl⟩
            have e62 : a.tmps[62]? = some (.pointer (some ⟨gw, 2, none⟩)) := Inv2.some_slot (by rw [hz]; exact Nat.le_of_ble_eq_true rfl) ((F 9 (by kernel_rfl)).2 62 rfl)
            have e63 : a.tmps[63]? = some (.slice XA SX.length xca) := Inv2.some_slot (by rw [hz]; exact Nat.le_of_ble_eq_true rfl) ((F 10 (by kernel_rfl)).2 63 rfl)
            have e64 : a.tmps[64]? = some (.pointer (some ⟨g, 2, none⟩)) := Inv2.some_slot (by rw [hz]; exact Nat.le_of_ble_eq_true rfl) ((F 11 (by kernel_rfl)).2 64 rfl)
            have e65 : a.tmps[65]? = some (.slice (some bd) n.vals.length h.vc) := Inv2.some_slot (by rw [hz]; exact Nat.le_of_ble_eq_true rfl) ((F 12 (by kernel_rfl)).2 65 rfl)
            have e66 : a.tmps[66]? = some (.int .i64 (k : Int)) := Inv2.some_slot (by rw [hz]; exact Nat.le_of_ble_eq_true rfl) ((F 13 (by kernel_rfl)).2 66 rfl)
            have e67 : a.tmps[67]? = some (.pointer (some (bd.add k))) := Inv2.some_slot (by rw [hz]; exact Nat.le_of_ble_eq_true rfl) ((F 14 (by kernel_rfl)).2 67 rfl)
            have e68 : a.tmps[68]? = some (.string p2) := Inv2.some_slot (by rw [hz]; exact Nat.le_of_ble_eq_true rfl) ((F 15 (by kernel_rfl)).2 68 rfl)
            obtain ⟨x69, e69, f16⟩ : ∃ x, a.tmps[69]? = some x ∧ Bs gw XA KA (.string p2) x w := ⟨_, Inv2.some_slot (by rw [hz]; exact Nat.le_of_ble_eq_true rfl) rfl, (F 16 (by kernel_rfl)).2 69 rfl⟩
            have e71 : a.tmps[71]? = some (.pointer (some ⟨gw, 1, none⟩)) := Inv2.some_slot (by rw [hz]; exact Nat.le_of_ble_eq_true rfl) ((F 18 (by kernel_rfl)).2 71 rfl)
            clear F hF
            clear hz
            go_simp
            exact hK (.pointer (some ⟨gw, 2, none⟩)) _ rfl ((rd_below (Below.refl _ _))) (hJ.quiet (Below.refl _ _) rfl rfl rfl rfl (by decide) (by decide))
          refine Inv4.from_cons _ _ _ _ rfl (fun q a w hq hD hJ hF F K hK => ?_) ?_
          · have hz : a.tmps.size = 88 := hF.size
            have e53 : a.tmps[53]? = some (.pointer (some ⟨gw, 1, none⟩)) := Inv2.some_slot (by rw [hz]; exact Nat.le_of_ble_eq_true rfl) ((F 0 (by kernel_rfl)).2 53 rfl)
            have e54 : a.tmps[54]? = some (.slice KA SK.length kca) := Inv2.some_slot (by rw [hz]; exact Nat.le_of_ble_eq_true rfl) ((F 1 (by kernel_rfl)).2 54 rfl)
            have e55 : a.tmps[55]? = some (.pointer (some ⟨g, 1, none⟩)) := Inv2.some_slot (by rw [hz]; exact Nat.le_of_ble_eq_true rfl) ((F 2 (by kernel_rfl)).2 55 rfl)
            have e56 : a.tmps[56]? = some (.slice (some ad) n.keys.length h.kc) := Inv2.some_slot (by rw [hz]; exact Nat.le_of_ble_eq_true rfl) ((F 3 (by kernel_rfl)).2 56 rfl)
            have e57 : a.tmps[57]? = some (.int .i64 (k : Int)) := Inv2.some_slot (by rw [hz]; exact Nat.le_of_ble_eq_true rfl) ((F 4 (by kernel_rfl)).2 57 rfl)
            have e58 : a.tmps[58]? = some (.pointer (some (ad.add k))) := Inv2.some_slot (by rw [hz]; exact Nat.le_of_ble_eq_true rfl) ((F 5 (by kernel_rfl)).2 58 rfl)
            have e59 : a.tmps[59]? = some (.string p1) := Inv2.some_slot (by rw [hz]; exact Nat.le_of_ble_eq_true rfl) ((F 6 (by kernel_rfl)).2 59 rfl)
            obtain ⟨x60, e60, f7⟩ : ∃ x, a.tmps[60]? = some x ∧ Bs gw KA XA (.string p1) x w := ⟨_, Inv2.some_slot (by rw [hz]; exact Nat.le_of_ble_eq_true rfl) rfl, (F 7 (by kernel_rfl)).2 60 rfl⟩
            have e62 : a.tmps[62]? = some (.pointer (some ⟨gw, 2, none⟩)) := Inv2.some_slot (by rw [hz]; exact Nat.le_of_ble_eq_true rfl) ((F 9 (by kernel_rfl)).2 62 rfl)
            have e63 : a.tmps[63]? = some (.slice XA SX.length xca) := Inv2.some_slot (by rw [hz]; exact Nat.le_of_ble_eq_true rfl) ((F 10 (by kernel_rfl)).2 63 rfl)
            have e64 : a.tmps[64]? = some (.pointer (some ⟨g, 2, none⟩)) := Inv2.some_slot (by rw [hz]; exact Nat.le_of_ble_eq_true rfl) ((F 11 (by kernel_rfl)).2 64 rfl)
            have e65 : a.tmps[65]? = some (.slice (some bd) n.vals.length h.vc) := Inv2.some_slot (by rw [hz]; exact Nat.le_of_ble_eq_true rfl) ((F 12 (by kernel_rfl)).2 65 rfl)
            have e66 : a.tmps[66]? = some (.int .i64 (k : Int)) := Inv2.some_slot (by rw [hz]; exact Nat.le_of_ble_eq_true rfl) ((F 13 (by kernel_rfl)).2 66 rfl)
            have e67 : a.tmps[67]? = some (.pointer (some (bd.add k))) := Inv2.some_slot (by rw [hz]; exact Nat.le_of_ble_eq_true rfl) ((F 14 (by kernel_rfl)).2 67 rfl)
            have e68 : a.tmps[68]? = some (.string p2) := Inv2.some_slot (by rw [hz]; exact Nat.le_of_ble_eq_true rfl) ((F 15 (by kernel_rfl)).2 68 rfl)
            obtain ⟨x69, e69, f16⟩ : ∃ x, a.tmps[69]? = some x ∧ Bs gw XA KA (.string p2) x w := ⟨_, Inv2.some_slot (by rw [hz]; exact Nat.le_of_ble_eq_true rfl) rfl, (F 16 (by kernel_rfl)).2 69 rfl⟩
            have b17 := (F 17 (by kernel_rfl)).1
            have e71 : a.tmps[71]? = some (.pointer (some ⟨gw, 1, none⟩)) := Inv2.some_slot (by rw [hz]; exact Nat.le_of_ble_eq_true rfl) ((F 18 (by kernel_rfl)).2 71 rfl)
            have e72 : a.tmps[72]? = some (.pointer (some ⟨gw, 2, none⟩)) := Inv2.some_slot (by rw [hz]; exact Nat.le_of_ble_eq_true rfl) ((F 20 (by kernel_rfl)).2 72 rfl)
            clear F hF
            obtain ⟨K2, kc2, hv⟩ := hJ.swap.val b17
            have e70 : a.tmps[70]? = some (.slice K2 (SX.length + 1) kc2) := Inv2.some_slot (by rw [hz]; exact Nat.le_of_ble_eq_true rfl) hv
            clear hz
            obtain ⟨⟨u0, hc0⟩, hz0⟩ := hJ.swap.cell
            obtain ⟨hR, hJ2⟩ := hJ.swap.st rfl rfl rfl (by decide) (by decide) (by decide) (by decide) hv undef
            clear hv
            go_simp
            exact hK undef _ trivial hR.swap hJ2.swap
          exact Inv4.from_end _ _ _ _ (by decide +kernel)
        · intro a w hJ hF F
          obtain ⟨f, hf⟩ : ∃ f : Nat → Value, ∀ i, a.tmps.getD i undef = f i := ⟨_, fun _ => rfl⟩
          obtain ⟨K2, kc2, X2, xc2, hw9⟩ := hJ.fin (by decide +kernel) (by decide +kernel) (by decide +kernel) (by decide +kernel)
          clear hJ
          have g0 : f 0 = (nv n h) := (hf 0).symm.trans (hF.slot 0 (by kernel_rfl))
          have g1 : f 1 = (.string key) := (hf 1).symm.trans (hF.slot 1 (by kernel_rfl))
          have g2 : f 2 = (.string value) := (hf 2).symm.trans (hF.slot 2 (by kernel_rfl))
          have g3 : f 3 = (.pointer (some ⟨g, 0, none⟩)) := (hf 3).symm.trans (hF.slot 3 (by kernel_rfl))
          have g4 : f 4 = (undef) := (hf 4).symm.trans (hF.slot 4 (by kernel_rfl))
          have g5 : f 5 = (undef) := (hf 5).symm.trans (hF.slot 5 (by kernel_rfl))
          have g6 : f 6 = (.pointer (some ⟨g + 1, 0, none⟩)) := (hf 6).symm.trans (hF.slot 6 (by kernel_rfl))
          have g7 : f 7 = (.pointer (some ⟨gw, 0, none⟩)) := (hf 7).symm.trans (hF.slot 7 (by kernel_rfl))
          have g8 : f 8 = (.bool true) := (hf 8).symm.trans (hF.slot 8 (by kernel_rfl))
          have g9 : f 9 = (.int .i64 (k : Int)) := (hf 9).symm.trans (hF.slot 9 (by kernel_rfl))
          have g10 : f 10 = (.pointer (some ⟨g, 0, none⟩)) := (hf 10).symm.trans (hF.slot 10 (by kernel_rfl))
          have g11 : f 11 = (.bool true) := (hf 11).symm.trans (hF.slot 11 (by kernel_rfl))
          have g12 : f 12 = (.bool false) := (hf 12).symm.trans (hF.slot 12 (by kernel_rfl))
          have g13 : f 13 = (undef) := (hf 13).symm.trans (hF.slot 13 (by kernel_rfl))
          have g14 : f 14 = (.agg #[.bool true, .slice none 0 0, .slice none 0 0, .slice none 0 0]) := (hf 14).symm.trans (hF.slot 14 (by kernel_rfl))
          have g73 : f 73 = (undef) := (hf 73).symm.trans (hF.slot 73 (by kernel_rfl))
          have g74 : f 74 = (undef) := (hf 74).symm.trans (hF.slot 74 (by kernel_rfl))
          have g75 : f 75 = (undef) := (hf 75).symm.trans (hF.slot 75 (by kernel_rfl))
          have g76 : f 76 = (undef) := (hf 76).symm.trans (hF.slot 76 (by kernel_rfl))
          have g77 : f 77 = (undef) := (hf 77).symm.trans (hF.slot 77 (by kernel_rfl))
          have g78 : f 78 = (undef) := (hf 78).symm.trans (hF.slot 78 (by kernel_rfl))
          have g79 : f 79 = (undef) := (hf 79).symm.trans (hF.slot 79 (by kernel_rfl))
          have g80 : f 80 = (undef) := (hf 80).symm.trans (hF.slot 80 (by kernel_rfl))
          have g81 : f 81 = (undef) := (hf 81).symm.trans (hF.slot 81 (by kernel_rfl))
          have g82 : f 82 = (undef) := (hf 82).symm.trans (hF.slot 82 (by kernel_rfl))
          have g83 : f 83 = (undef) := (hf 83).symm.trans (hF.slot 83 (by kernel_rfl))
          have g84 : f 84 = (undef) := (hf 84).symm.trans (hF.slot 84 (by kernel_rfl))
          have g85 : f 85 = (undef) := (hf 85).symm.trans (hF.slot 85 (by kernel_rfl))
          have g86 : f 86 = (undef) := (hf 86).symm.trans (hF.slot 86 (by kernel_rfl))
          have g87 : f 87 = (undef) := (hf 87).symm.trans (hF.slot 87 (by kernel_rfl))
          have g53 : f 53 = (.pointer (some ⟨gw, 1, none⟩)) := (hf 53).symm.trans (F 0 53 rfl)
          have g54 : f 54 = (.slice KA SK.length kca) := (hf 54).symm.trans (F 1 54 rfl)
          have g55 : f 55 = (.pointer (some ⟨g, 1, none⟩)) := (hf 55).symm.trans (F 2 55 rfl)
          have g56 : f 56 = (.slice (some ad) n.keys.length h.kc) := (hf 56).symm.trans (F 3 56 rfl)
          have g57 : f 57 = (.int .i64 (k : Int)) := (hf 57).symm.trans (F 4 57 rfl)
          have g58 : f 58 = (.pointer (some (ad.add k))) := (hf 58).symm.trans (F 5 58 rfl)
          have g59 : f 59 = (.string p1) := (hf 59).symm.trans (F 6 59 rfl)
          obtain ⟨x60, g60⟩ : ∃ x, f 60 = x := ⟨_, rfl⟩
          have f7 : Bs gw KA XA (.string p1) x60 w := by rw [← g60, ← hf 60]; exact F 7 60 rfl
          have g62 : f 62 = (.pointer (some ⟨gw, 2, none⟩)) := (hf 62).symm.trans (F 9 62 rfl)
          have g63 : f 63 = (.slice XA SX.length xca) := (hf 63).symm.trans (F 10 63 rfl)
          have g64 : f 64 = (.pointer (some ⟨g, 2, none⟩)) := (hf 64).symm.trans (F 11 64 rfl)
          have g65 : f 65 = (.slice (some bd) n.vals.length h.vc) := (hf 65).symm.trans (F 12 65 rfl)
          have g66 : f 66 = (.int .i64 (k : Int)) := (hf 66).symm.trans (F 13 66 rfl)
          have g67 : f 67 = (.pointer (some (bd.add k))) := (hf 67).symm.trans (F 14 67 rfl)
          have g68 : f 68 = (.string p2) := (hf 68).symm.trans (F 15 68 rfl)
          obtain ⟨x69, g69⟩ : ∃ x, f 69 = x := ⟨_, rfl⟩
          have f16 : Bs gw XA KA (.string p2) x69 w := by rw [← g69, ← hf 69]; exact F 16 69 rfl
          have g71 : f 71 = (.pointer (some ⟨gw, 1, none⟩)) := (hf 71).symm.trans (F 18 71 rfl)
          have g72 : f 72 = (.pointer (some ⟨gw, 2, none⟩)) := (hf 72).symm.trans (F 20 72 rfl)
          have ha := Frames.frame (show a.tmps.size = 88 from hF.size) hF.defers hf (l := [f 0, f 1, f 2, f 3, f 4, f 5, f 6, f 7, f 8, f 9, f 10, f 11, f 12, f 13, f 14, f 15, f 16, f 17, f 18, f 19, f 20, f 21, f 22, f 23, f 24, f 25, f 26, f 27, f 28, f 29, f 30, f 31, f 32, f 33, f 34, f 35, f 36, f 37, f 38, f 39, f 40, f 41, f 42, f 43, f 44, f 45, f 46, f 47, f 48, f 49, f 50, f 51, f 52, f 53, f 54, f 55, f 56, f 57, f 58, f 59, f 60, f 61, f 62, f 63, f 64, f 65, f 66, f 67, f 68, f 69, f 70, f 71, f 72, f 73, f 74, f 75, f 76, f 77, f 78, f 79, f 80, f 81, f 82, f 83, f 84, f 85, f 86, f 87]) rfl
          simp only [g0, g1, g2, g3, g4, g5, g6, g7, g8, g9, g10, g11, g12, g13, g14, g73, g74, g75, g76, g77, g78, g79, g80, g81, g82, g83, g84, g85, g86, g87, g53, g54, g55, g56, g57, g58, g59, g60, g62, g63, g64, g65, g66, g67, g68, g69, g71, g72] at ha
          clear F hF hf g0 g1 g2 g3 g4 g5 g6 g7 g8 g9 g10 g11 g12 g13 g14 g73 g74 g75 g76 g77 g78 g79 g80 g81 g82 g83 g84 g85 g86 g87 g53 g54 g55 g56 g57 g58 g59 g60 g62 g63 g64 g65 g66 g67 g68 g69 g71 g72
          subst ha
          have hout := out_fin HSK.out HSX.out hw9
          clear HSK HSX HSL hw9
          go_wp2_with fail
          go_roundw
          case rel => exact ⟨k + 1, true, acc ++ [(p1, p2)], by omega, by rw [HTK.out]; exact acc_in HACC.out, rfl, by go_num, hout⟩
          case measure => simp [intOf]; omega
      | false =>
        cases hls : less p1 key with
        | true =>
          have HLS := Lib.hid hls
          have heqb : (p1.toList == key.toList) = false := by rw [Str.ba_beq, decide_eq_false_iff_not]; exact less_ne hls
          obtain ⟨c1, c2, c3, c4⟩ := HXK.out wr hout.b
          have hbl := Below_b (w := wr) p1 key HPS.out HKS.out
          rw [hls] at hbl
          clear hls
          go_wp2_with fail
          refine hbl.mono ?_
          rintro e w5 ⟨rfl, b5⟩
          clear hbl c1 c2 c3 c4
          have hout := hout.below b5
          clear b5
          obtain ⟨c1, c2, c3, c4⟩ := HXK.out w5 hout.b
          go_wp2_with fail
          clear c1 c2 c3 c4 heqb
          have HLE := Lib.hid (show (acc).length ≤ 50000 by have h1 := HACC.out.len; have h2 := HLL.out; rw [List.length_take] at h1; (try simp only [List.length_append, List.length_singleton]); omega)
          obtain ⟨KA, kca, XA, xca, SK, SX, hw8, hSK, hSX⟩ := hout.gen
          have HSK := Lib.hid hSK
          have HSX := Lib.hid hSX
          have HSL := Lib.hid (show SK.length ≤ 100000 ∧ SX.length ≤ 100000 by rw [hSK, hSX]; simp only [strs, ks, vs, List.length_map]; have := HLE.out; omega)
          clear hSK hSX hout
          have hJ0 := fun a0 : Act => Duo.start (a1 := 8) (s1 := 19) (a2 := 17) (s2 := 21) (d1 := 61) (d2 := 70) (u := .string p1) (v := .string p2) (hw8.below (Below.refl _ _).drew) a0
          clear hw8
          refine wp_region_any (by kernel_rfl) ?_
          change wpAny _ _ _ _ _ _ _ (World.drew _)
          refine Inv4.inv_any (fun (i : Nat) (v : Value) (w : World) => match i with | 0 => v = .pointer (some ⟨gw, 1, none⟩) | 1 => v = .slice KA SK.length kca | 2 => v = .pointer (some ⟨g, 1, none⟩) | 3 => v = .slice (some ad) n.keys.length h.kc | 4 => v = .int .i64 (k : Int) | 5 => v = .pointer (some (ad.add k)) | 6 => v = .string p1 | 7 => Bs gw KA XA (.string p1) v w | 9 => v = .pointer (some ⟨gw, 2, none⟩) | 10 => v = .slice XA SX.length xca | 11 => v = .pointer (some ⟨g, 2, none⟩) | 12 => v = .slice (some bd) n.vals.length h.vc | 13 => v = .int .i64 (k : Int) | 14 => v = .pointer (some (bd.add k)) | 15 => v = .string p2 | 16 => Bs gw XA KA (.string p2) v w | 18 => v = .pointer (some ⟨gw, 1, none⟩) | 20 => v = .pointer (some ⟨gw, 2, none⟩) | _ => True) (Rd gw KA XA) (fun q a w => Duo gw W1 8 19 17 21 61 70 1 2 KA kca SK (.string p1) XA xca SX (.string p2) (World.drew w5).heap.size q a w) _ ?_ 88 rfl rfl rfl (by kernel_rfl) (hJ0 _) ?_ ?_
          · intro j v w w' h hb
            match j, h with
            | 0, h => exact h
            | 1, h => exact h
            | 2, h => exact h
            | 3, h => exact h
            | 4, h => exact h
            | 5, h => exact h
            | 6, h => exact h
            | 7, h => exact Bs.last h hb
            | 9, h => exact h
            | 10, h => exact h
            | 11, h => exact h
            | 12, h => exact h
            | 13, h => exact h
            | 14, h => exact h
            | 15, h => exact h
            | 16, h => exact Bs.last h hb.swap
            | 18, h => exact h
            | 20, h => exact h
            | 8, _ => exact trivial
            | 17, _ => exact trivial
            | 19, _ => exact trivial
            | 21, _ => exact trivial
            | (_ + 22), _ => exact trivial
          · skip
            refine Inv4.from_cons _ _ _ _ rfl (fun q a w hq hD hJ hF F K hK => ?_) ?_
            · have hz : a.tmps.size = 88 := hF.size
              have e7 : a.tmps[7]? = some (.pointer (some ⟨gw, 0, none⟩)) := Inv2.some_slot (by rw [hz]; exact Nat.le_of_ble_eq_true rfl) (hF.slot 7 (by kernel_rfl))
              clear F hF
              clear hz
              go_simp
              exact hK (.pointer (some ⟨gw, 1, none⟩)) _ rfl ((rd_below (Below.refl _ _))) (hJ.quiet (Below.refl _ _) rfl rfl rfl rfl (by decide) (by decide))
            refine Inv4.from_cons _ _ _ _ rfl (fun q a w hq hD hJ hF F K hK => ?_) ?_
            · have hz : a.tmps.size = 88 := hF.size
              have e53 : a.tmps[53]? = some (.pointer (some ⟨gw, 1, none⟩)) := Inv2.some_slot (by rw [hz]; exact Nat.le_of_ble_eq_true rfl) ((F 0 (by kernel_rfl)).2 53 rfl)
              clear F hF
              clear hz
              have hld := hJ.ld (hD.no hq (by kernel_rfl))
              go_simp
              exact hK (.slice KA SK.length kca) _ rfl (rd_below (Below.refl _ _)) (hJ.quiet (Below.refl _ _) rfl rfl rfl rfl (by decide) (by decide))
            refine Inv4.from_cons _ _ _ _ rfl (fun q a w hq hD hJ hF F K hK => ?_) ?_
            · have hz : a.tmps.size = 88 := hF.size
              have e3 : a.tmps[3]? = some (.pointer (some ⟨g, 0, none⟩)) := Inv2.some_slot (by rw [hz]; exact Nat.le_of_ble_eq_true rfl) (hF.slot 3 (by kernel_rfl))
              clear F hF
              clear hz
              go_simp
              exact hK (.pointer (some ⟨g, 1, none⟩)) _ rfl ((rd_below (Below.refl _ _))) (hJ.quiet (Below.refl _ _) rfl rfl rfl rfl (by decide) (by decide))
            refine Inv4.from_cons _ _ _ _ rfl (fun q a w hq hD hJ hF F K hK => ?_) ?_
            · have hz : a.tmps.size = 88 := hF.size
              have e55 : a.tmps[55]? = some (.pointer (some ⟨g, 1, none⟩)) := Inv2.some_slot (by rw [hz]; exact Nat.le_of_ble_eq_true rfl) ((F 2 (by kernel_rfl)).2 55 rfl)
              clear F hF
              clear hz
              obtain ⟨c1, c2, c3, c4⟩ := HXK.out w hJ.below
              go_simp
              exact hK (.slice (some ad) n.keys.length h.kc) _ rfl (rd_below (Below.refl _ _)) (hJ.quiet (Below.refl _ _) rfl rfl rfl rfl (by decide) (by decide))
            refine Inv4.from_cons _ _ _ _ rfl (fun q a w hq hD hJ hF F K hK => ?_) ?_
            · have hz : a.tmps.size = 88 := hF.size
              have e9 : a.tmps[9]? = some (.int .i64 (k : Int)) := Inv2.some_slot (by rw [hz]; exact Nat.le_of_ble_eq_true rfl) (hF.slot 9 (by kernel_rfl))
              clear F hF
              clear hz
              go_simp
              exact hK (.int .i64 (k : Int)) _ rfl ((rd_below (Below.refl _ _))) (hJ.quiet (Below.refl _ _) rfl rfl rfl rfl (by decide) (by decide))
            refine Inv4.from_cons _ _ _ _ rfl (fun q a w hq hD hJ hF F K hK => ?_) ?_
            · have hz : a.tmps.size = 88 := hF.size
              have e56 : a.tmps[56]? = some (.slice (some ad) n.keys.length h.kc) := Inv2.some_slot (by rw [hz]; exact Nat.le_of_ble_eq_true rfl) ((F 3 (by kernel_rfl)).2 56 rfl)
              have e57 : a.tmps[57]? = some (.int .i64 (k : Int)) := Inv2.some_slot (by rw [hz]; exact Nat.le_of_ble_eq_true rfl) ((F 4 (by kernel_rfl)).2 57 rfl)
              clear F hF
              clear hz
              go_simp
              exact hK (.pointer (some (ad.add k))) _ rfl ((rd_below (Below.refl _ _))) (hJ.quiet (Below.refl _ _) rfl rfl rfl rfl (by decide) (by decide))
            refine Inv4.from_cons _ _ _ _ rfl (fun q a w hq hD hJ hF F K hK => ?_) ?_
            · have hz : a.tmps.size = 88 := hF.size
              have e58 : a.tmps[58]? = some (.pointer (some (ad.add k))) := Inv2.some_slot (by rw [hz]; exact Nat.le_of_ble_eq_true rfl) ((F 5 (by kernel_rfl)).2 58 rfl)
              clear F hF
              clear hz
              obtain ⟨c1, c2, c3, c4⟩ := HXK.out w hJ.below
              go_simp
              exact hK (.string p1) _ rfl (rd_below (Below.refl _ _)) (hJ.quiet (Below.refl _ _) rfl rfl rfl rfl (by decide) (by decide))
            refine Inv4.from_cons _ _ _ _ rfl (fun q a w hq hD hJ hF F K hK => ?_) ?_
            · have hz : a.tmps.size = 88 := hF.size
              have e59 : a.tmps[59]? = some (.string p1) := Inv2.some_slot (by rw [hz]; exact Nat.le_of_ble_eq_true rfl) ((F 6 (by kernel_rfl)).2 59 rfl)
              clear F hF
              clear hz
              have hnew := hJ.new (.string p1)
              go_simp
              exact hK _ _ hnew (rd_below (al _ _)) (hJ.quiet (al _ _) rfl rfl rfl rfl (by decide) (by decide))
            refine Inv4.from_cons _ _ _ _ rfl (fun q a w hq hD hJ hF F K hK => ?_) ?_
            · have hz : a.tmps.size = 88 := hF.size
              have e54 : a.tmps[54]? = some (.slice KA SK.length kca) := Inv2.some_slot (by rw [hz]; exact Nat.le_of_ble_eq_true rfl) ((F 1 (by kernel_rfl)).2 54 rfl)
              obtain ⟨x60, e60, f7⟩ : ∃ x, a.tmps[60]? = some x ∧ Bs gw KA XA (.string p1) x w := ⟨_, Inv2.some_slot (by rw [hz]; exact Nat.le_of_ble_eq_true rfl) rfl, (F 7 (by kernel_rfl)).2 60 rfl⟩
              clear F hF
              have hsz : 61 < a.tmps.size := by rw [hz]; exact Nat.le_of_ble_eq_true rfl
              clear hz
              obtain ⟨g8, K2, kc2, w', rfl, hrun, hR, hJ2⟩ := hJ.app hq (hD.no hq (by kernel_rfl)) hsz (by decide) rfl rfl rfl f7 rfl SK.length rfl HSL.out.1
              refine NodeEnt.step_append_d (d := 61) rfl rfl (.tmp 54) (.tmp 60) 22 22 rfl (vs := .slice KA SK.length kca) (vx := .slice (some ⟨g8, 0, none⟩) 1 1) (by simp [Act.eval, e54]) (by simp [Act.eval, e60]) hrun ?_
              exact hK _ _ trivial hR hJ2
            refine Inv4.from_cons _ _ _ _ rfl (fun q a w hq hD hJ hF F K hK => ?_) ?_
            · have hz : a.tmps.size = 88 := hF.size
              have e7 : a.tmps[7]? = some (.pointer (some ⟨gw, 0, none⟩)) := Inv2.some_slot (by rw [hz]; exact Nat.le_of_ble_eq_true rfl) (hF.slot 7 (by kernel_rfl))
              clear F hF
              clear hz
              go_simp
              exact hK (.pointer (some ⟨gw, 2, none⟩)) _ rfl ((rd_below (Below.refl _ _))) (hJ.quiet (Below.refl _ _) rfl rfl rfl rfl (by decide) (by decide))
            refine Inv4.from_cons _ _ _ _ rfl (fun q a w hq hD hJ hF F K hK => ?_) ?_
            · have hz : a.tmps.size = 88 := hF.size
              have e62 : a.tmps[62]? = some (.pointer (some ⟨gw, 2, none⟩)) := Inv2.some_slot (by rw [hz]; exact Nat.le_of_ble_eq_true rfl) ((F 9 (by kernel_rfl)).2 62 rfl)
              clear F hF
              clear hz
              have hld := hJ.swap.ld (hD.no hq (by kernel_rfl))
              go_simp
              exact hK (.slice XA SX.length xca) _ rfl (rd_below (Below.refl _ _)) (hJ.quiet (Below.refl _ _) rfl rfl rfl rfl (by decide) (by decide))
            refine Inv4.from_cons _ _ _ _ rfl (fun q a w hq hD hJ hF F K hK => ?_) ?_
            · have hz : a.tmps.size = 88 := hF.size
              have e3 : a.tmps[3]? = some (.pointer (some ⟨g, 0, none⟩)) := Inv2.some_slot (by rw [hz]; exact Nat.le_of_ble_eq_true rfl) (hF.slot 3 (by kernel_rfl))
              clear F hF
              clear hz
              go_simp
              exact hK (.pointer (some ⟨g, 2, none⟩)) _ rfl ((rd_below (Below.refl _ _))) (hJ.quiet (Below.refl _ _) rfl rfl rfl rfl (by decide) (by decide))
            refine Inv4.from_cons _ _ _ _ rfl (fun q a w hq hD hJ hF F K hK => ?_) ?_
            · have hz : a.tmps.size = 88 := hF.size
              have e64 : a.tmps[64]? = some (.pointer (some ⟨g, 2, none⟩)) := Inv2.some_slot (by rw [hz]; exact Nat.le_of_ble_eq_true rfl) ((F 11 (by kernel_rfl)).2 64 rfl)
              clear F hF
              clear hz
              obtain ⟨c1, c2, c3, c4⟩ := HXK.out w hJ.below
              go_simp
              exact hK (.slice (some bd) n.vals.length h.vc) _ rfl (rd_below (Below.refl _ _)) (hJ.quiet (Below.refl _ _) rfl rfl rfl rfl (by decide) (by decide))
            refine Inv4.from_cons _ _ _ _ rfl (fun q a w hq hD hJ hF F K hK => ?_) ?_
            · have hz : a.tmps.size = 88 := hF.size
              have e9 : a.tmps[9]? = some (.int .i64 (k : Int)) := Inv2.some_slot (by rw [hz]; exact Nat.le_of_ble_eq_true rfl) (hF.slot 9 (by kernel_rfl))
              clear F hF
              clear hz
              go_simp
              exact hK (.int .i64 (k : Int)) _ rfl ((rd_below (Below.refl _ _))) (hJ.quiet (Below.refl _ _) rfl rfl rfl rfl (by decide) (by decide))
            refine Inv4.from_cons _ _ _ _ rfl (fun q a w hq hD hJ hF F K hK => ?_) ?_
            · have hz : a.tmps.size = 88 := hF.size
              have e65 : a.tmps[65]? = some (.slice (some bd) n.vals.length h.vc) := Inv2.some_slot (by rw [hz]; exact Nat.le_of_ble_eq_true rfl) ((F 12 (by kernel_rfl)).2 65 rfl)
              have e66 : a.tmps[66]? = some (.int .i64 (k : Int)) := Inv2.some_slot (by rw [hz]; exact Nat.le_of_ble_eq_true rfl) ((F 13 (by kernel_rfl)).2 66 rfl)
              clear F hF
              clear hz
              go_simp
              exact hK (.pointer (some (bd.add k))) _ rfl ((rd_below (Below.refl _ _))) (hJ.quiet (Below.refl _ _) rfl rfl rfl rfl (by decide) (by decide))
            refine Inv4.from_cons _ _ _ _ rfl (fun q a w hq hD hJ hF F K hK => ?_) ?_
            · have hz : a.tmps.size = 88 := hF.size
              have e67 : a.tmps[67]? = some (.pointer (some (bd.add k))) := Inv2.some_slot (by rw [hz]; exact Nat.le_of_ble_eq_true rfl) ((F 14 (by kernel_rfl)).2 67 rfl)
              clear F hF
              clear hz
              obtain ⟨c1, c2, c3, c4⟩ := HXK.out w hJ.below
              go_simp
              exact hK (.string p2) _ rfl (rd_below (Below.refl _ _)) (hJ.quiet (Below.refl _ _) rfl rfl rfl rfl (by decide) (by decide))
            refine Inv4.from_cons _ _ _ _ rfl (fun q a w hq hD hJ hF F K hK => ?_) ?_
            · have hz : a.tmps.size = 88 := hF.size
              have e68 : a.tmps[68]? = some (.string p2) := Inv2.some_slot (by rw [hz]; exact Nat.le_of_ble_eq_true rfl) ((F 15 (by kernel_rfl)).2 68 rfl)
              clear F hF
              clear hz
              have hnew := hJ.swap.new (.string p2)
              go_simp
              exact hK _ _ hnew (rd_below (al _ _)) (hJ.quiet (al _ _) rfl rfl rfl rfl (by decide) (by decide))
            refine Inv4.from_cons _ _ _ _ rfl (fun q a w hq hD hJ hF F K hK => ?_) ?_
            · have hz : a.tmps.size = 88 := hF.size
              have e63 : a.tmps[63]? = some (.slice XA SX.length xca) := Inv2.some_slot (by rw [hz]; exact Nat.le_of_ble_eq_true rfl) ((F 10 (by kernel_rfl)).2 63 rfl)
              obtain ⟨x69, e69, f16⟩ : ∃ x, a.tmps[69]? = some x ∧ Bs gw XA KA (.string p2) x w := ⟨_, Inv2.some_slot (by rw [hz]; exact Nat.le_of_ble_eq_true rfl) rfl, (F 16 (by kernel_rfl)).2 69 rfl⟩
              clear F hF
              have hsz : 70 < a.tmps.size := by rw [hz]; exact Nat.le_of_ble_eq_true rfl
              clear hz
              obtain ⟨g8, K2, kc2, w', rfl, hrun, hR, hJ2⟩ := hJ.swap.app hq (hD.no hq (by kernel_rfl)) hsz (by decide) rfl rfl rfl f16 rfl SX.length rfl HSL.out.2
              refine NodeEnt.step_append_d (d := 70) rfl rfl (.tmp 63) (.tmp 69) 22 22 rfl (vs := .slice XA SX.length xca) (vx := .slice (some ⟨g8, 0, none⟩) 1 1) (by simp [Act.eval, e63]) (by simp [Act.eval, e69]) hrun ?_
              exact hK _ _ trivial hR.swap hJ2.swap
            refine Inv4.from_cons _ _ _ _ rfl (fun q a w hq hD hJ hF F K hK => ?_) ?_
            · have hz : a.tmps.size = 88 := hF.size
              have e7 : a.tmps[7]? = some (.pointer (some ⟨gw, 0, none⟩)) := Inv2.some_slot (by rw [hz]; exact Nat.le_of_ble_eq_true rfl) (hF.slot 7 (by kernel_rfl))
              have e53 : a.tmps[53]? = some (.pointer (some ⟨gw, 1, none⟩)) := Inv2.some_slot (by rw [hz]; exact Nat.le_of_ble_eq_true rfl) ((F 0 (by kernel_rfl)).2 53 rfl)
              have e54 : a.tmps[54]? = some (.slice KA SK.length kca) := Inv2.some_slot (by rw [hz]; exact Nat.le_of_ble_eq_true rfl) ((F 1 (by kernel_rfl)).2 54 rfl)
              have e55 : a.tmps[55]? = some (.pointer (some ⟨g, 1, none⟩)) := Inv2.some_slot (by rw [hz]; exact Nat.le_of_ble_eq_true rfl) ((F 2 (by kernel_rfl)).2 55 rfl)
              have e56 : a.tmps[56]? = some (.slice (some ad) n.keys.length h.kc) := Inv2.some_slot (by rw [hz]; exact Nat.le_of_ble_eq_true rfl) ((F 3 (by kernel_rfl)).2 56 rfl)
              have e57 : a.tmps[57]? = some (.int .i64 (k : Int)) := Inv2.some_slot (by rw [hz]; exact Nat.le_of_ble_eq_true rfl) ((F 4 (by kernel_rfl)).2 57 rfl)
              have e58 : a.tmps[58]? = some (.pointer (some (ad.add k))) := Inv2.some_slot (by rw [hz]; exact Nat.le_of_ble_eq_true rfl) ((F 5 (by kernel_rfl)).2 58 rfl)
              have e59 : a.tmps[59]? = some (.string p1) := Inv2.some_slot (by rw [hz]; exact Nat.le_of_ble_eq_true rfl) ((F 6 (by kernel_rfl)).2 59 rfl)
              obtain ⟨x60, e60, f7⟩ : ∃ x, a.tmps[60]? = some x ∧ Bs gw KA XA (.string p1) x w := ⟨_, Inv2.some_slot (by rw [hz]; exact Nat.le_of_ble_eq_true rfl) rfl, (F 7 (by kernel_rfl)).2 60 rfl⟩
              have e62 : a.tmps[62]? = some (.pointer (some ⟨gw, 2, none⟩)) := Inv2.some_slot (by rw [hz]; exact Nat.le_of_ble_eq_true rfl) ((F 9 (by kernel_rfl)).2 62 rfl)
              have e63 : a.tmps[63]? = some (.slice XA SX.length xca) := Inv2.some_slot (by rw [hz]; exact Nat.le_of_ble_eq_true rfl) ((F 10 (by kernel_rfl)).2 63 rfl)
              clear F hF
              clear hz
              go_simp
              exact hK (.pointer (some ⟨gw, 1, none⟩)) _ rfl ((rd_below (Below.refl _ _))) (hJ.quiet (Below.refl _ _) rfl rfl rfl rfl (by decide) (by decide))
            refine Inv4.from_cons _ _ _ _ rfl (fun q a w hq hD hJ hF F K hK => ?_) ?_
            · have hz : a.tmps.size = 88 := hF.size
              have e53 : a.tmps[53]? = some (.pointer (some ⟨gw, 1, none⟩)) := Inv2.some_slot (by rw [hz]; exact Nat.le_of_ble_eq_true rfl) ((F 0 (by kernel_rfl)).2 53 rfl)
              have e54 : a.tmps[54]? = some (.slice KA SK.length kca) := Inv2.some_slot (by rw [hz]; exact Nat.le_of_ble_eq_true rfl) ((F 1 (by kernel_rfl)).2 54 rfl)
              have e55 : a.tmps[55]? = some (.pointer (some ⟨g, 1, none⟩)) := Inv2.some_slot (by rw [hz]; exact Nat.le_of_ble_eq_true rfl) ((F 2 (by kernel_rfl)).2 55 rfl)
              have e56 : a.tmps[56]? = some (.slice (some ad) n.keys.length h.kc) := Inv2.some_slot (by rw [hz]; exact Nat.le_of_ble_eq_true rfl) ((F 3 (by kernel_rfl)).2 56 rfl)
              have e57 : a.tmps[57]? = some (.int .i64 (k : Int)) := Inv2.some_slot (by rw [hz]; exact Nat.le_of_ble_eq_true rfl) ((F 4 (by kernel_rfl)).2 57 rfl)
              have e58 : a.tmps[58]? = some (.pointer (some (ad.add k))) := Inv2.some_slot (by rw [hz]; exact Nat.le_of_ble_eq_true rfl) ((F 5 (by kernel_rfl)).2 58 rfl)
              have e59 : a.tmps[59]? = some (.string p1) := Inv2.some_slot (by rw [hz]; exact Nat.le_of_ble_eq_true rfl) ((F 6 (by kernel_rfl)).2 59 rfl)
              obtain ⟨x60, e60, f7⟩ : ∃ x, a.tmps[60]? = some x ∧ Bs gw KA XA (.string p1) x w := ⟨_, Inv2.some_slot (by rw [hz]; exact Nat.le_of_ble_eq_true rfl) rfl, (F 7 (by kernel_rfl)).2 60 rfl⟩
              have b8 := (F 8 (by kernel_rfl)).1
              have e62 : a.tmps[62]? = some (.pointer (some ⟨gw, 2, none⟩)) := Inv2.some_slot (by rw [hz]; exact Nat.le_of_ble_eq_true rfl) ((F 9 (by kernel_rfl)).2 62 rfl)
              have e63 : a.tmps[63]? = some (.slice XA SX.length xca) := Inv2.some_slot (by rw [hz]; exact Nat.le_of_ble_eq_true rfl) ((F 10 (by kernel_rfl)).2 63 rfl)
              have e71 : a.tmps[71]? = some (.pointer (some ⟨gw, 1, none⟩)) := Inv2.some_slot (by rw [hz]; exact Nat.le_of_ble_eq_true rfl) ((F 18 (by kernel_rfl)).2 71 rfl)
              clear F hF
              obtain ⟨K2, kc2, hv⟩ := hJ.val b8
              have e61 : a.tmps[61]? = some (.slice K2 (SK.length + 1) kc2) := Inv2.some_slot (by rw [hz]; exact Nat.le_of_ble_eq_true rfl) hv
              clear hz
              obtain ⟨⟨u0, hc0⟩, hz0⟩ := hJ.cell
              obtain ⟨hR, hJ2⟩ := hJ.st rfl rfl rfl (by decide) (by decide) (by decide) (by decide) hv undef
              clear hv
              go_simp
              exact hK undef _ trivial hR hJ2
            refine Inv4.from_cons _ _ _ _ rfl (fun q a w hq hD hJ hF F K hK => ?_) ?_
            · have hz : a.tmps.size = 88 := hF.size
              have e7 : a.tmps[7]? = some (.pointer (some ⟨gw, 0, none⟩)) := Inv2.some_slot (by rw [hz]; exact Nat.le_of_ble_eq_true rfl) (hF.slot 7 (by kernel_rfl))
              have e53 : a.tmps[53]? = some (.pointer (some ⟨gw, 1, none⟩)) := Inv2.some_slot (by rw [hz]; exact Nat.le_of_ble_eq_true rfl) ((F 0 (by kernel_rfl)).2 53 rfl)
              have e54 : a.tmps[54]? = some (.slice KA SK.length kca) := Inv2.some_slot (by rw [hz]; exact Nat.le_of_ble_eq_true rfl) ((F 1 (by kernel_rfl)).2 54 rfl)
              have e55 : a.tmps[55]? = some (.pointer (some ⟨g, 1, none⟩)) := Inv2.some_slot (by rw [hz]; exact Nat.le_of_ble_eq_true rfl) ((F 2 (by kernel_rfl)).2 55 rfl)
              have e56 : a.tmps[56]? = some (.slice (some ad) n.keys.length h.kc) := Inv2.some_slot (by rw [hz]; exact Nat.le_of_ble_eq_true rfl) ((F 3 (by kernel_rfl)).2 56 rfl)
              have e57 : a.tmps[57]? = some (.int .i64 (k : Int)) := Inv2.some_slot (by rw [hz]; exact Nat.le_of_ble_eq_true rfl) ((F 4 (by kernel_rfl)).2 57 rfl)
              have e58 : a.tmps[58]? = some (.pointer (some (ad.add k))) := Inv2.some_slot (by rw [hz]; exact Nat.le_of_ble_eq_true rfl) ((F 5 (by kernel_rfl)).2 58 rfl)
              have e59 : a.tmps[59]? = some (.string p1) := Inv2.some_slot (by rw [hz]; exact Nat.le_of_ble_eq_true rfl) ((F 6 (by kernel_rfl)).2 59 rfl)
              obtain ⟨x60, e60, f7⟩ : ∃ x, a.tmps[60]? = some x ∧ Bs gw KA XA (.string p1) x w := ⟨_, Inv2.some_slot (by rw [hz]; exact Nat.le_of_ble_eq_true rfl) rfl, (F 7 (by kernel_rfl)).2 60 rfl⟩
              have e62 : a.tmps[62]? = some (.pointer (some ⟨gw, 2, none⟩)) := Inv2.some_slot (by rw [hz]; exact Nat.le_of_ble_eq_true rfl) ((F 9 (by kernel_rfl)).2 62 rfl)
              have e63 : a.tmps[63]? = some (.slice XA SX.length xca) := Inv2.some_slot (by rw [hz]; exact Nat.le_of_ble_eq_true rfl) ((F 10 (by kernel_rfl)).2 63 rfl)
              have e64 : a.tmps[64]? = some (.pointer (some ⟨g, 2, none⟩)) := Inv2.some_slot (by rw [hz]; exact Nat.le_of_ble_eq_true rfl) ((F 11 (by kernel_rfl)).2 64 rfl)
              have e65 : a.tmps[65]? = some (.slice (some bd) n.vals.length h.vc) := Inv2.some_slot (by rw [hz]; exact Nat.le_of_ble_eq_true rfl) ((F 12 (by kernel_rfl)).2 65 rfl)
              have e66 : a.tmps[66]? = some (.int .i64 (k : Int)) := Inv2.some_slot (by rw [hz]; exact Nat.le_of_ble_eq_true rfl) ((F 13 (by kernel_rfl)).2 66 rfl)
              have e67 : a.tmps[67]? = some (.pointer (some (bd.add k))) := Inv2.some_slot (by rw [hz]; exact Nat.le_of_ble_eq_true rfl) ((F 14 (by kernel_rfl)).2 67 rfl)
              have e68 : a.tmps[68]? = some (.string p2) := Inv2.some_slot (by rw [hz]; exact Nat.le_of_ble_eq_true rfl) ((F 15 (by kernel_rfl)).2 68 rfl)
              obtain ⟨x69, e69, f16⟩ : ∃ x, a.tmps[69]? = some x ∧ Bs gw XA KA (.string p2) x w := ⟨_, Inv2.some_slot (by rw [hz]; exact Nat.le_of_ble_eq_true rfl) rfl, (F 16 (by kernel_rfl)).2 69 rfl⟩
              have e71 : a.tmps[71]? = some (.pointer (some ⟨gw, 1, none⟩)) := Inv2.some_slot (by rw [hz]; exact Nat.le_of_ble_eq_true rfl) ((F 18 (by kernel_rfl)).2 71 rfl)
              clear F hF
              clear hz
              go_simp
              exact hK (.pointer (some ⟨gw, 2, none⟩)) _ rfl ((rd_below (Below.refl _ _))) (hJ.quiet (Below.refl _ _) rfl rfl rfl rfl (by decide) (by decide))
            refine Inv4.from_cons _ _ _ _ rfl (fun q a w hq hD hJ hF F K hK => ?_) ?_
            · have hz : a.tmps.size = 88 := hF.size
              have e53 : a.tmps[53]? = some (.pointer (some ⟨gw, 1, none⟩)) := Inv2.some_slot (by rw [hz]; exact Nat.le_of_ble_eq_true rfl) ((F 0 (by kernel_rfl)).2 53 rfl)
              have e54 : a.tmps[54]? = some (.slice KA SK.length kca) := Inv2.some_slot (by rw [hz]; exact Nat.le_of_ble_eq_true rfl) ((F 1 (by kernel_rfl)).2 54 rfl)
              have e55 : a.tmps[55]? = some (.pointer (some ⟨g, 1, none⟩)) := Inv2.some_slot (by rw [hz]; exact Nat.le_of_ble_eq_true rfl) ((F 2 (by kernel_rfl)).2 55 rfl)
              have e56 : a.tmps[56]? = some (.slice (some ad) n.keys.length h.kc) := Inv2.some_slot (by rw [hz]; exact Nat.le_of_ble_eq_true rfl) ((F 3 (by kernel_rfl)).2 56 rfl)
              have e57 : a.tmps[57]? = some (.int .i64 (k : Int)) := Inv2.some_slot (by rw [hz]; exact Nat.le_of_ble_eq_true rfl) ((F 4 (by kernel_rfl)).2 57 rfl)
              have e58 : a.tmps[58]? = some (.pointer (some (ad.add k))) := Inv2.some_slot (by rw [hz]; exact Nat.le_of_ble_eq_true rfl) ((F 5 (by kernel_rfl)).2 58 rfl)
              have e59 : a.tmps[59]? = some (.string p1) := Inv2.some_slot (by rw [hz]; exact Nat.le_of_ble_eq_true rfl) ((F 6 (by kernel_rfl)).2 59 rfl)
              obtain ⟨x60, e60, f7⟩ : ∃ x, a.tmps[60]? = some x ∧ Bs gw KA XA (.string p1) x w := ⟨_, Inv2.some_slot (by rw [hz]; exact Nat.le_of_ble_eq_true rfl) rfl, (F 7 (by kernel_rfl)).2 60 rfl⟩
              have e62 : a.tmps[62]? = some (.pointer (some ⟨gw, 2, none⟩)) := Inv2.some_slot (by rw [hz]; exact Nat.le_of_ble_eq_true rfl) ((F 9 (by kernel_rfl)).2 62 rfl)
              have e63 : a.tmps[63]? = some (.slice XA SX.length xca) := Inv2.some_slot (by rw [hz]; exact Nat.le_of_ble_eq_true rfl) ((F 10 (by kernel_rfl)).2 63 rfl)
              have e64 : a.tmps[64]? = some (.pointer (some ⟨g, 2, none⟩)) := Inv2.some_slot (by rw [hz]; exact Nat.le_of_ble_eq_true rfl) ((F 11 (by kernel_rfl)).2 64 rfl)
              have e65 : a.tmps[65]? = some (.slice (some bd) n.vals.length h.vc) := Inv2.some_slot (by rw [hz]; exact Nat.le_of_ble_eq_true rfl) ((F 12 (by kernel_rfl)).2 65 rfl)
              have e66 : a.tmps[66]? = some (.int .i64 (k : Int)) := Inv2.some_slot (by rw [hz]; exact Nat.le_of_ble_eq_true rfl) ((F 13 (by kernel_rfl)).2 66 rfl)
              have e67 : a.tmps[67]? = some (.pointer (some (bd.add k))) := Inv2.some_slot (by rw [hz]; exact Nat.le_of_ble_eq_true rfl) ((F 14 (by kernel_rfl)).2 67 rfl)
              have e68 : a.tmps[68]? = some (.string p2) := Inv2.some_slot (by rw [hz]; exact Nat.le_of_ble_eq_true rfl) ((F 15 (by kernel_rfl)).2 68 rfl)
              obtain ⟨x69, e69, f16⟩ : ∃ x, a.tmps[69]? = some x ∧ Bs gw XA KA (.string p2) x w := ⟨_, Inv2.some_slot (by rw [hz]; exact Nat.le_of_ble_eq_true rfl) rfl, (F 16 (by kernel_rfl)).2 69 rfl⟩
              have b17 := (F 17 (by kernel_rfl)).1
              have e71 : a.tmps[71]? = some (.pointer (some ⟨gw, 1, none⟩)) := Inv2.some_slot (by rw [hz]; exact Nat.le_of_ble_eq_true rfl) ((F 18 (by kernel_rfl)).2 71 rfl)
              have e72 : a.tmps[72]? = some (.pointer (some ⟨gw, 2, none⟩)) := Inv2.some_slot (by rw [hz]; exact Nat.le_of_ble_eq_true rfl) ((F 20 (by kernel_rfl)).2 72 rfl)
              clear F hF
              obtain ⟨K2, kc2, hv⟩ := hJ.swap.val b17
              have e70 : a.tmps[70]? = some (.slice K2 (SX.length + 1) kc2) := Inv2.some_slot (by rw [hz]; exact Nat.le_of_ble_eq_true rfl) hv
              clear hz
              obtain ⟨⟨u0, hc0⟩, hz0⟩ := hJ.swap.cell
              obtain ⟨hR, hJ2⟩ := hJ.swap.st rfl rfl rfl (by decide) (by decide) (by decide) (by decide) hv undef
              clear hv
              go_simp
              exact hK undef _ trivial hR.swap hJ2.swap
            exact Inv4.from_end _ _ _ _ (by decide +kernel)
          · intro a w hJ hF F
            obtain ⟨f, hf⟩ : ∃ f : Nat → Value, ∀ i, a.tmps.getD i undef = f i := ⟨_, fun _ => rfl⟩
            obtain ⟨K2, kc2, X2, xc2, hw9⟩ := hJ.fin (by decide +kernel) (by decide +kernel) (by decide +kernel) (by decide +kernel)
            clear hJ
            have g0 : f 0 = (nv n h) := (hf 0).symm.trans (hF.slot 0 (by kernel_rfl))
            have g1 : f 1 = (.string key) := (hf 1).symm.trans (hF.slot 1 (by kernel_rfl))
            have g2 : f 2 = (.string value) := (hf 2).symm.trans (hF.slot 2 (by kernel_rfl))
            have g3 : f 3 = (.pointer (some ⟨g, 0, none⟩)) := (hf 3).symm.trans (hF.slot 3 (by kernel_rfl))
            have g4 : f 4 = (undef) := (hf 4).symm.trans (hF.slot 4 (by kernel_rfl))
            have g5 : f 5 = (undef) := (hf 5).symm.trans (hF.slot 5 (by kernel_rfl))
            have g6 : f 6 = (.pointer (some ⟨g + 1, 0, none⟩)) := (hf 6).symm.trans (hF.slot 6 (by kernel_rfl))
            have g7 : f 7 = (.pointer (some ⟨gw, 0, none⟩)) := (hf 7).symm.trans (hF.slot 7 (by kernel_rfl))
            have g8 : f 8 = (.bool false) := (hf 8).symm.trans (hF.slot 8 (by kernel_rfl))
            have g9 : f 9 = (.int .i64 (k : Int)) := (hf 9).symm.trans (hF.slot 9 (by kernel_rfl))
            have g10 : f 10 = (.pointer (some ⟨g, 0, none⟩)) := (hf 10).symm.trans (hF.slot 10 (by kernel_rfl))
            have g11 : f 11 = (.bool true) := (hf 11).symm.trans (hF.slot 11 (by kernel_rfl))
            have g12 : f 12 = (.bool false) := (hf 12).symm.trans (hF.slot 12 (by kernel_rfl))
            have g13 : f 13 = (undef) := (hf 13).symm.trans (hF.slot 13 (by kernel_rfl))
            have g14 : f 14 = (.agg #[.bool true, .slice none 0 0, .slice none 0 0, .slice none 0 0]) := (hf 14).symm.trans (hF.slot 14 (by kernel_rfl))
            have g73 : f 73 = (undef) := (hf 73).symm.trans (hF.slot 73 (by kernel_rfl))
            have g74 : f 74 = (undef) := (hf 74).symm.trans (hF.slot 74 (by kernel_rfl))
            have g75 : f 75 = (undef) := (hf 75).symm.trans (hF.slot 75 (by kernel_rfl))
            have g76 : f 76 = (undef) := (hf 76).symm.trans (hF.slot 76 (by kernel_rfl))
            have g77 : f 77 = (undef) := (hf 77).symm.trans (hF.slot 77 (by kernel_rfl))
            have g78 : f 78 = (undef) := (hf 78).symm.trans (hF.slot 78 (by kernel_rfl))
            have g79 : f 79 = (undef) := (hf 79).symm.trans (hF.slot 79 (by kernel_rfl))
            have g80 : f 80 = (undef) := (hf 80).symm.trans (hF.slot 80 (by kernel_rfl))
            have g81 : f 81 = (undef) := (hf 81).symm.trans (hF.slot 81 (by kernel_rfl))
            have g82 : f 82 = (undef) := (hf 82).symm.trans (hF.slot 82 (by kernel_rfl))
            have g83 : f 83 = (undef) := (hf 83).symm.trans (hF.slot 83 (by kernel_rfl))
            have g84 : f 84 = (undef) := (hf 84).symm.trans (hF.slot 84 (by kernel_rfl))
            have g85 : f 85 = (undef) := (hf 85).symm.trans (hF.slot 85 (by kernel_rfl))
            have g86 : f 86 = (undef) := (hf 86).symm.trans (hF.slot 86 (by kernel_rfl))
            have g87 : f 87 = (undef) := (hf 87).symm.trans (hF.slot 87 (by kernel_rfl))
            have g53 : f 53 = (.pointer (some ⟨gw, 1, none⟩)) := (hf 53).symm.trans (F 0 53 rfl)
            have g54 : f 54 = (.slice KA SK.length kca) := (hf 54).symm.trans (F 1 54 rfl)
            have g55 : f 55 = (.pointer (some ⟨g, 1, none⟩)) := (hf 55).symm.trans (F 2 55 rfl)
            have g56 : f 56 = (.slice (some ad) n.keys.length h.kc) := (hf 56).symm.trans (F 3 56 rfl)
            have g57 : f 57 = (.int .i64 (k : Int)) := (hf 57).symm.trans (F 4 57 rfl)
            have g58 : f 58 = (.pointer (some (ad.add k))) := (hf 58).symm.trans (F 5 58 rfl)
            have g59 : f 59 = (.string p1) := (hf 59).symm.trans (F 6 59 rfl)
            obtain ⟨x60, g60⟩ : ∃ x, f 60 = x := ⟨_, rfl⟩
            have f7 : Bs gw KA XA (.string p1) x60 w := by rw [← g60, ← hf 60]; exact F 7 60 rfl
            have g62 : f 62 = (.pointer (some ⟨gw, 2, none⟩)) := (hf 62).symm.trans (F 9 62 rfl)
            have g63 : f 63 = (.slice XA SX.length xca) := (hf 63).symm.trans (F 10 63 rfl)
            have g64 : f 64 = (.pointer (some ⟨g, 2, none⟩)) := (hf 64).symm.trans (F 11 64 rfl)
            have g65 : f 65 = (.slice (some bd) n.vals.length h.vc) := (hf 65).symm.trans (F 12 65 rfl)
            have g66 : f 66 = (.int .i64 (k : Int)) := (hf 66).symm.trans (F 13 66 rfl)
            have g67 : f 67 = (.pointer (some (bd.add k))) := (hf 67).symm.trans (F 14 67 rfl)
            have g68 : f 68 = (.string p2) := (hf 68).symm.trans (F 15 68 rfl)
            obtain ⟨x69, g69⟩ : ∃ x, f 69 = x := ⟨_, rfl⟩
            have f16 : Bs gw XA KA (.string p2) x69 w := by rw [← g69, ← hf 69]; exact F 16 69 rfl
            have g71 : f 71 = (.pointer (some ⟨gw, 1, none⟩)) := (hf 71).symm.trans (F 18 71 rfl)
            have g72 : f 72 = (.pointer (some ⟨gw, 2, none⟩)) := (hf 72).symm.trans (F 20 72 rfl)
            have ha := Frames.frame (show a.tmps.size = 88 from hF.size) hF.defers hf (l := [f 0, f 1, f 2, f 3, f 4, f 5, f 6, f 7, f 8, f 9, f 10, f 11, f 12, f 13, f 14, f 15, f 16, f 17, f 18, f 19, f 20, f 21, f 22, f 23, f 24, f 25, f 26, f 27, f 28, f 29, f 30, f 31, f 32, f 33, f 34, f 35, f 36, f 37, f 38, f 39, f 40, f 41, f 42, f 43, f 44, f 45, f 46, f 47, f 48, f 49, f 50, f 51, f 52, f 53, f 54, f 55, f 56, f 57, f 58, f 59, f 60, f 61, f 62, f 63, f 64, f 65, f 66, f 67, f 68, f 69, f 70, f 71, f 72, f 73, f 74, f 75, f 76, f 77, f 78, f 79, f 80, f 81, f 82, f 83, f 84, f 85, f 86, f 87]) rfl
            simp only [g0, g1, g2, g3, g4, g5, g6, g7, g8, g9, g10, g11, g12, g13, g14, g73, g74, g75, g76, g77, g78, g79, g80, g81, g82, g83, g84, g85, g86, g87, g53, g54, g55, g56, g57, g58, g59, g60, g62, g63, g64, g65, g66, g67, g68, g69, g71, g72] at ha
            clear F hF hf g0 g1 g2 g3 g4 g5 g6 g7 g8 g9 g10 g11 g12 g13 g14 g73 g74 g75 g76 g77 g78 g79 g80 g81 g82 g83 g84 g85 g86 g87 g53 g54 g55 g56 g57 g58 g59 g60 g62 g63 g64 g65 g66 g67 g68 g69 g71 g72
            subst ha
            have hout := out_fin HSK.out HSX.out hw9
            clear HSK HSX HSL hw9
            go_wp2_with fail
            go_roundw
            case rel => exact ⟨k + 1, false, acc ++ [(p1, p2)], by omega, by rw [HTK.out]; exact acc_lt HACC.out HLS.out, rfl, by go_num, hout⟩
            case measure => simp [intOf]; omega
        | false =>
          by_cases hpe : p1 = key
          · skip
            have HE := Lib.hid hpe
            have heqb : (p1.toList == key.toList) = true := by rw [hpe]; simp
            clear hpe
            have hbl := Below_b (w := wr) p1 key HPS.out HKS.out
            obtain ⟨c1, c2, c3, c4⟩ := HXK.out wr hout.b
            rw [hls] at hbl
            have HLS := Lib.hid hls
            clear hls
            go_wp2_with fail
            refine hbl.mono ?_
            rintro e w5 ⟨rfl, b5⟩
            clear hbl c1 c2 c3 c4
            have hout := hout.below b5
            clear b5
            go_wp2_with fail
            have HLE := Lib.hid (show acc.length ≤ 50000 by have h1 := HACC.out.len; have h2 := HLL.out; rw [List.length_take] at h1; (try simp only [List.length_append, List.length_singleton]); omega)
            obtain ⟨KA, kca, XA, xca, SK, SX, hw8, hSK, hSX⟩ := hout.gen
            have HSK := Lib.hid hSK
            have HSX := Lib.hid hSX
            have HSL := Lib.hid (show SK.length ≤ 100000 ∧ SX.length ≤ 100000 by rw [hSK, hSX]; simp only [strs, ks, vs, List.length_map]; have := HLE.out; omega)
            clear hSK hSX hout
            have hJ0 := fun a0 : Act => Duo.start (a1 := 4) (s1 := 11) (a2 := 9) (s2 := 13) (d1 := 38) (d2 := 43) (u := .string key) (v := .string value) (hw8.below (Below.refl _ _).drew) a0
            clear hw8
            refine wp_region_any (by kernel_rfl) ?_
            change wpAny _ _ _ _ _ _ _ (World.drew _)
            refine Inv4.inv_any (fun (i : Nat) (v : Value) (w : World) => match i with | 0 => v = .pointer (some ⟨gw, 1, none⟩) | 1 => v = .slice KA SK.length kca | 2 => v = .string key | 3 => Bs gw KA XA (.string key) v w | 5 => v = .pointer (some ⟨gw, 2, none⟩) | 6 => v = .slice XA SX.length xca | 7 => v = .string value | 8 => Bs gw XA KA (.string value) v w | 10 => v = .pointer (some ⟨gw, 1, none⟩) | 12 => v = .pointer (some ⟨gw, 2, none⟩) | _ => True) (Rd gw KA XA) (fun q a w => Duo gw W1 4 11 9 13 38 43 1 2 KA kca SK (.string key) XA xca SX (.string value) (World.drew w5).heap.size q a w) _ ?_ 88 rfl rfl rfl (by kernel_rfl) (hJ0 _) ?_ ?_
            · intro j v w w' h hb
              match j, h with
              | 0, h => exact h
              | 1, h => exact h
              | 2, h => exact h
              | 3, h => exact Bs.last h hb
              | 5, h => exact h
              | 6, h => exact h
              | 7, h => exact h
              | 8, h => exact Bs.last h hb.swap
              | 10, h => exact h
              | 12, h => exact h
              | 4, _ => exact trivial
              | 9, _ => exact trivial
              | 11, _ => exact trivial
              | 13, _ => exact trivial
              | (_ + 14), _ => exact trivial
            · skip
              refine Inv4.from_cons _ _ _ _ rfl (fun q a w hq hD hJ hF F K hK => ?_) ?_
              · have hz : a.tmps.size = 88 := hF.size
                have e7 : a.tmps[7]? = some (.pointer (some ⟨gw, 0, none⟩)) := Inv2.some_slot (by rw [hz]; exact Nat.le_of_ble_eq_true rfl) (hF.slot 7 (by kernel_rfl))
                clear F hF
                clear hz
                go_simp
                exact hK (.pointer (some ⟨gw, 1, none⟩)) _ rfl ((rd_below (Below.refl _ _))) (hJ.quiet (Below.refl _ _) rfl rfl rfl rfl (by decide) (by decide))
              refine Inv4.from_cons _ _ _ _ rfl (fun q a w hq hD hJ hF F K hK => ?_) ?_
              · have hz : a.tmps.size = 88 := hF.size
                have e34 : a.tmps[34]? = some (.pointer (some ⟨gw, 1, none⟩)) := Inv2.some_slot (by rw [hz]; exact Nat.le_of_ble_eq_true rfl) ((F 0 (by kernel_rfl)).2 34 rfl)
                clear F hF
                clear hz
                have hld := hJ.ld (hD.no hq (by kernel_rfl))
                go_simp
                exact hK (.slice KA SK.length kca) _ rfl (rd_below (Below.refl _ _)) (hJ.quiet (Below.refl _ _) rfl rfl rfl rfl (by decide) (by decide))
              refine Inv4.from_cons _ _ _ _ rfl (fun q a w hq hD hJ hF F K hK => ?_) ?_
              · have hz : a.tmps.size = 88 := hF.size
                have e1 : a.tmps[1]? = some (.string key) := Inv2.some_slot (by rw [hz]; exact Nat.le_of_ble_eq_true rfl) (hF.slot 1 (by kernel_rfl))
                clear F hF
                clear hz
                go_simp
                exact hK (.string key) _ rfl ((rd_below (Below.refl _ _))) (hJ.quiet (Below.refl _ _) rfl rfl rfl rfl (by decide) (by decide))
              refine Inv4.from_cons _ _ _ _ rfl (fun q a w hq hD hJ hF F K hK => ?_) ?_
              · have hz : a.tmps.size = 88 := hF.size
                have e36 : a.tmps[36]? = some (.string key) := Inv2.some_slot (by rw [hz]; exact Nat.le_of_ble_eq_true rfl) ((F 2 (by kernel_rfl)).2 36 rfl)
                clear F hF
                clear hz
                have hnew := hJ.new (.string key)
                go_simp
                exact hK _ _ hnew (rd_below (al _ _)) (hJ.quiet (al _ _) rfl rfl rfl rfl (by decide) (by decide))
              refine Inv4.from_cons _ _ _ _ rfl (fun q a w hq hD hJ hF F K hK => ?_) ?_
              · have hz : a.tmps.size = 88 := hF.size
                have e35 : a.tmps[35]? = some (.slice KA SK.length kca) := Inv2.some_slot (by rw [hz]; exact Nat.le_of_ble_eq_true rfl) ((F 1 (by kernel_rfl)).2 35 rfl)
                obtain ⟨x37, e37, f3⟩ : ∃ x, a.tmps[37]? = some x ∧ Bs gw KA XA (.string key) x w := ⟨_, Inv2.some_slot (by rw [hz]; exact Nat.le_of_ble_eq_true rfl) rfl, (F 3 (by kernel_rfl)).2 37 rfl⟩
                clear F hF
                have hsz : 38 < a.tmps.size := by rw [hz]; exact Nat.le_of_ble_eq_true rfl
                clear hz
                obtain ⟨g8, K2, kc2, w', rfl, hrun, hR, hJ2⟩ := hJ.app hq (hD.no hq (by kernel_rfl)) hsz (by decide) rfl rfl rfl f3 rfl SK.length rfl HSL.out.1
                refine NodeEnt.step_append_d (d := 38) rfl rfl (.tmp 35) (.tmp 37) 22 22 rfl (vs := .slice KA SK.length kca) (vx := .slice (some ⟨g8, 0, none⟩) 1 1) (by simp [Act.eval, e35]) (by simp [Act.eval, e37]) hrun ?_
                exact hK _ _ trivial hR hJ2
              refine Inv4.from_cons _ _ _ _ rfl (fun q a w hq hD hJ hF F K hK => ?_) ?_
              · have hz : a.tmps.size = 88 := hF.size
                have e7 : a.tmps[7]? = some (.pointer (some ⟨gw, 0, none⟩)) := Inv2.some_slot (by rw [hz]; exact Nat.le_of_ble_eq_true rfl) (hF.slot 7 (by kernel_rfl))
                clear F hF
                clear hz
                go_simp
                exact hK (.pointer (some ⟨gw, 2, none⟩)) _ rfl ((rd_below (Below.refl _ _))) (hJ.quiet (Below.refl _ _) rfl rfl rfl rfl (by decide) (by decide))
              refine Inv4.from_cons _ _ _ _ rfl (fun q a w hq hD hJ hF F K hK => ?_) ?_
              · have hz : a.tmps.size = 88 := hF.size
                have e39 : a.tmps[39]? = some (.pointer (some ⟨gw, 2, none⟩)) := Inv2.some_slot (by rw [hz]; exact Nat.le_of_ble_eq_true rfl) ((F 5 (by kernel_rfl)).2 39 rfl)
                clear F hF
                clear hz
                have hld := hJ.swap.ld (hD.no hq (by kernel_rfl))
                go_simp
                exact hK (.slice XA SX.length xca) _ rfl (rd_below (Below.refl _ _)) (hJ.quiet (Below.refl _ _) rfl rfl rfl rfl (by decide) (by decide))
              refine Inv4.from_cons _ _ _ _ rfl (fun q a w hq hD hJ hF F K hK => ?_) ?_
              · have hz : a.tmps.size = 88 := hF.size
                have e2 : a.tmps[2]? = some (.string value) := Inv2.some_slot (by rw [hz]; exact Nat.le_of_ble_eq_true rfl) (hF.slot 2 (by kernel_rfl))
                clear F hF
                clear hz
                go_simp
                exact hK (.string value) _ rfl ((rd_below (Below.refl _ _))) (hJ.quiet (Below.refl _ _) rfl rfl rfl rfl (by decide) (by decide))
              refine Inv4.from_cons _ _ _ _ rfl (fun q a w hq hD hJ hF F K hK => ?_) ?_
              · have hz : a.tmps.size = 88 := hF.size
                have e41 : a.tmps[41]? = some (.string value) := Inv2.some_slot (by rw [hz]; exact Nat.le_of_ble_eq_true rfl) ((F 7 (by kernel_rfl)).2 41 rfl)
                clear F hF
                clear hz
                have hnew := hJ.swap.new (.string value)
                go_simp
                exact hK _ _ hnew (rd_below (al _ _)) (hJ.quiet (al _ _) rfl rfl rfl rfl (by decide) (by decide))
              refine Inv4.from_cons _ _ _ _ rfl (fun q a w hq hD hJ hF F K hK => ?_) ?_
              · have hz : a.tmps.size = 88 := hF.size
                have e40 : a.tmps[40]? = some (.slice XA SX.length xca) := Inv2.some_slot (by rw [hz]; exact Nat.le_of_ble_eq_true rfl) ((F 6 (by kernel_rfl)).2 40 rfl)
                obtain ⟨x42, e42, f8⟩ : ∃ x, a.tmps[42]? = some x ∧ Bs gw XA KA (.string value) x w := ⟨_, Inv2.some_slot (by rw [hz]; exact Nat.le_of_ble_eq_true rfl) rfl, (F 8 (by kernel_rfl)).2 42 rfl⟩
                clear F hF
                have hsz : 43 < a.tmps.size := by rw [hz]; exact Nat.le_of_ble_eq_true rfl
                clear hz
                obtain ⟨g8, K2, kc2, w', rfl, hrun, hR, hJ2⟩ := hJ.swap.app hq (hD.no hq (by kernel_rfl)) hsz (by decide) rfl rfl rfl f8 rfl SX.length rfl HSL.out.2
                refine NodeEnt.step_append_d (d := 43) rfl rfl (.tmp 40) (.tmp 42) 22 22 rfl (vs := .slice XA SX.length xca) (vx := .slice (some ⟨g8, 0, none⟩) 1 1) (by simp [Act.eval, e40]) (by simp [Act.eval, e42]) hrun ?_
                exact hK _ _ trivial hR.swap hJ2.swap
              refine Inv4.from_cons _ _ _ _ rfl (fun q a w hq hD hJ hF F K hK => ?_) ?_
              · have hz : a.tmps.size = 88 := hF.size
                have e7 : a.tmps[7]? = some (.pointer (some ⟨gw, 0, none⟩)) := Inv2.some_slot (by rw [hz]; exact Nat.le_of_ble_eq_true rfl) (hF.slot 7 (by kernel_rfl))
                have e34 : a.tmps[34]? = some (.pointer (some ⟨gw, 1, none⟩)) := Inv2.some_slot (by rw [hz]; exact Nat.le_of_ble_eq_true rfl) ((F 0 (by kernel_rfl)).2 34 rfl)
                have e35 : a.tmps[35]? = some (.slice KA SK.length kca) := Inv2.some_slot (by rw [hz]; exact Nat.le_of_ble_eq_true rfl) ((F 1 (by kernel_rfl)).2 35 rfl)
                have e36 : a.tmps[36]? = some (.string key) := Inv2.some_slot (by rw [hz]; exact Nat.le_of_ble_eq_true rfl) ((F 2 (by kernel_rfl)).2 36 rfl)
                obtain ⟨x37, e37, f3⟩ : ∃ x, a.tmps[37]? = some x ∧ Bs gw KA XA (.string key) x w := ⟨_, Inv2.some_slot (by rw [hz]; exact Nat.le_of_ble_eq_true rfl) rfl, (F 3 (by kernel_rfl)).2 37 rfl⟩
                have e39 : a.tmps[39]? = some (.pointer (some ⟨gw, 2, none⟩)) := Inv2.some_slot (by rw [hz]; exact Nat.le_of_ble_eq_true rfl) ((F 5 (by kernel_rfl)).2 39 rfl)
                have e40 : a.tmps[40]? = some (.slice XA SX.length xca) := Inv2.some_slot (by rw [hz]; exact Nat.le_of_ble_eq_true rfl) ((F 6 (by kernel_rfl)).2 40 rfl)
                clear F hF
                clear hz
                go_simp
                exact hK (.pointer (some ⟨gw, 1, none⟩)) _ rfl ((rd_below (Below.refl _ _))) (hJ.quiet (Below.refl _ _) rfl rfl rfl rfl (by decide) (by decide))
              refine Inv4.from_cons _ _ _ _ rfl (fun q a w hq hD hJ hF F K hK => ?_) ?_
              · have hz : a.tmps.size = 88 := hF.size
                have e34 : a.tmps[34]? = some (.pointer (some ⟨gw, 1, none⟩)) := Inv2.some_slot (by rw [hz]; exact Nat.le_of_ble_eq_true rfl) ((F 0 (by kernel_rfl)).2 34 rfl)
                have e35 : a.tmps[35]? = some (.slice KA SK.length kca) := Inv2.some_slot (by rw [hz]; exact Nat.le_of_ble_eq_true rfl) ((F 1 (by kernel_rfl)).2 35 rfl)
                have e36 : a.tmps[36]? = some (.string key) := Inv2.some_slot (by rw [hz]; exact Nat.le_of_ble_eq_true rfl) ((F 2 (by kernel_rfl)).2 36 rfl)
                obtain ⟨x37, e37, f3⟩ : ∃ x, a.tmps[37]? = some x ∧ Bs gw KA XA (.string key) x w := ⟨_, Inv2.some_slot (by rw [hz]; exact Nat.le_of_ble_eq_true rfl) rfl, (F 3 (by kernel_rfl)).2 37 rfl⟩
                have b4 := (F 4 (by kernel_rfl)).1
                have e39 : a.tmps[39]? = some (.pointer (some ⟨gw, 2, none⟩)) := Inv2.some_slot (by rw [hz]; exact Nat.le_of_ble_eq_true rfl) ((F 5 (by kernel_rfl)).2 39 rfl)
                have e40 : a.tmps[40]? = some (.slice XA SX.length xca) := Inv2.some_slot (by rw [hz]; exact Nat.le_of_ble_eq_true rfl) ((F 6 (by kernel_rfl)).2 40 rfl)
                have e44 : a.tmps[44]? = some (.pointer (some ⟨gw, 1, none⟩)) := Inv2.some_slot (by rw [hz]; exact Nat.le_of_ble_eq_true rfl) ((F 10 (by kernel_rfl)).2 44 rfl)
                clear F hF
                obtain ⟨K2, kc2, hv⟩ := hJ.val b4
                have e38 : a.tmps[38]? = some (.slice K2 (SK.length + 1) kc2) := Inv2.some_slot (by rw [hz]; exact Nat.le_of_ble_eq_true rfl) hv
                clear hz
                obtain ⟨⟨u0, hc0⟩, hz0⟩ := hJ.cell
                obtain ⟨hR, hJ2⟩ := hJ.st rfl rfl rfl (by decide) (by decide) (by decide) (by decide) hv undef
                clear hv
                go_simp
                exact hK undef _ trivial hR hJ2
              refine Inv4.from_cons _ _ _ _ rfl (fun q a w hq hD hJ hF F K hK => ?_) ?_
              · have hz : a.tmps.size = 88 := hF.size
                have e7 : a.tmps[7]? = some (.pointer (some ⟨gw, 0, none⟩)) := Inv2.some_slot (by rw [hz]; exact Nat.le_of_ble_eq_true rfl) (hF.slot 7 (by kernel_rfl))
                have e34 : a.tmps[34]? = some (.pointer (some ⟨gw, 1, none⟩)) := Inv2.some_slot (by rw [hz]; exact Nat.le_of_ble_eq_true rfl) ((F 0 (by kernel_rfl)).2 34 rfl)
                have e35 : a.tmps[35]? = some (.slice KA SK.length kca) := Inv2.some_slot (by rw [hz]; exact Nat.le_of_ble_eq_true rfl) ((F 1 (by kernel_rfl)).2 35 rfl)
                have e36 : a.tmps[36]? = some (.string key) := Inv2.some_slot (by rw [hz]; exact Nat.le_of_ble_eq_true rfl) ((F 2 (by kernel_rfl)).2 36 rfl)
                obtain ⟨x37, e37, f3⟩ : ∃ x, a.tmps[37]? = some x ∧ Bs gw KA XA (.string key) x w := ⟨_, Inv2.some_slot (by rw [hz]; exact Nat.le_of_ble_eq_true rfl) rfl, (F 3 (by kernel_rfl)).2 37 rfl⟩
                have e39 : a.tmps[39]? = some (.pointer (some ⟨gw, 2, none⟩)) := Inv2.some_slot (by rw [hz]; exact Nat.le_of_ble_eq_true rfl) ((F 5 (by kernel_rfl)).2 39 rfl)
                have e40 : a.tmps[40]? = some (.slice XA SX.length xca) := Inv2.some_slot (by rw [hz]; exact Nat.le_of_ble_eq_true rfl) ((F 6 (by kernel_rfl)).2 40 rfl)
                have e41 : a.tmps[41]? = some (.string value) := Inv2.some_slot (by rw [hz]; exact Nat.le_of_ble_eq_true rfl) ((F 7 (by kernel_rfl)).2 41 rfl)
                obtain ⟨x42, e42, f8⟩ : ∃ x, a.tmps[42]? = some x ∧ Bs gw XA KA (.string value) x w := ⟨_, Inv2.some_slot (by rw [hz]; exact Nat.le_of_ble_eq_true rfl) rfl, (F 8 (by kernel_rfl)).2 42 rfl⟩
                have e44 : a.tmps[44]? = some (.pointer (some ⟨gw, 1, none⟩)) := Inv2.some_slot (by rw [hz]; exact Nat.le_of_ble_eq_true rfl) ((F 10 (by kernel_rfl)).2 44 rfl)
                clear F hF
                clear hz
                go_simp
                exact hK (.pointer (some ⟨gw, 2, none⟩)) _ rfl ((rd_below (Below.refl _ _))) (hJ.quiet (Below.refl _ _) rfl rfl rfl rfl (by decide) (by decide))
              refine Inv4.from_cons _ _ _ _ rfl (fun q a w hq hD hJ hF F K hK => ?_) ?_
              · have hz : a.tmps.size = 88 := hF.size
                have e34 : a.tmps[34]? = some (.pointer (some ⟨gw, 1, none⟩)) := Inv2.some_slot (by rw [hz]; exact Nat.le_of_ble_eq_true rfl) ((F 0 (by kernel_rfl)).2 34 rfl)
                have e35 : a.tmps[35]? = some (.slice KA SK.length kca) := Inv2.some_slot (by rw [hz]; exact Nat.le_of_ble_eq_true rfl) ((F 1 (by kernel_rfl)).2 35 rfl)
                have e36 : a.tmps[36]? = some (.string key) := Inv2.some_slot (by rw [hz]; exact Nat.le_of_ble_eq_true rfl) ((F 2 (by kernel_rfl)).2 36 rfl)
                obtain ⟨x37, e37, f3⟩ : ∃ x, a.tmps[37]? = some x ∧ Bs gw KA XA (.string key) x w := ⟨_, Inv2.some_slot (by rw [hz]; exact Nat.le_of_ble_eq_true rfl) rfl, (F 3 (by kernel_rfl)).2 37 rfl⟩
                have e39 : a.tmps[39]? = some (.pointer (some ⟨gw, 2, none⟩)) := Inv2.some_slot (by rw [hz]; exact Nat.le_of_ble_eq_true rfl) ((F 5 (by kernel_rfl)).2 39 rfl)
                have e40 : a.tmps[40]? = some (.slice XA SX.length xca) := Inv2.some_slot (by rw [hz]; exact Nat.le_of_ble_eq_true rfl) ((F 6 (by kernel_rfl)).2 40 rfl)
                have e41 : a.tmps[41]? = some (.string value) := Inv2.some_slot (by rw [hz]; exact Nat.le_of_ble_eq_true rfl) ((F 7 (by kernel_rfl)).2 41 rfl)
                obtain ⟨x42, e42, f8⟩ : ∃ x, a.tmps[42]? = some x ∧ Bs gw XA KA (.string value) x w := ⟨_, Inv2.some_slot (by rw [hz]; exact Nat.le_of_ble_eq_true rfl) rfl, (F 8 (by kernel_rfl)).2 42 rfl⟩
                have b9 := (F 9 (by kernel_rfl)).1
                have e44 : a.tmps[44]? = some (.pointer (some ⟨gw, 1, none⟩)) := Inv2.some_slot (by rw [hz]; exact Nat.le_of_ble_eq_true rfl) ((F 10 (by kernel_rfl)).2 44 rfl)
                have e45 : a.tmps[45]? = some (.pointer (some ⟨gw, 2, none⟩)) := Inv2.some_slot (by rw [hz]; exact Nat.le_of_ble_eq_true rfl) ((F 12 (by kernel_rfl)).2 45 rfl)
                clear F hF
                obtain ⟨K2, kc2, hv⟩ := hJ.swap.val b9
                have e43 : a.tmps[43]? = some (.slice K2 (SX.length + 1) kc2) := Inv2.some_slot (by rw [hz]; exact Nat.le_of_ble_eq_true rfl) hv
                clear hz
                obtain ⟨⟨u0, hc0⟩, hz0⟩ := hJ.swap.cell
                obtain ⟨hR, hJ2⟩ := hJ.swap.st rfl rfl rfl (by decide) (by decide) (by decide) (by decide) hv undef
                clear hv
                go_simp
                exact hK undef _ trivial hR.swap hJ2.swap
              exact Inv4.from_end _ _ _ _ (by decide +kernel)
            · intro a w hJ hF F
              obtain ⟨f, hf⟩ : ∃ f : Nat → Value, ∀ i, a.tmps.getD i undef = f i := ⟨_, fun _ => rfl⟩
              obtain ⟨K2, kc2, X2, xc2, hw9⟩ := hJ.fin (by decide +kernel) (by decide +kernel) (by decide +kernel) (by decide +kernel)
              clear hJ
              have g0 : f 0 = (nv n h) := (hf 0).symm.trans (hF.slot 0 (by kernel_rfl))
              have g1 : f 1 = (.string key) := (hf 1).symm.trans (hF.slot 1 (by kernel_rfl))
              have g2 : f 2 = (.string value) := (hf 2).symm.trans (hF.slot 2 (by kernel_rfl))
              have g3 : f 3 = (.pointer (some ⟨g, 0, none⟩)) := (hf 3).symm.trans (hF.slot 3 (by kernel_rfl))
              have g4 : f 4 = (undef) := (hf 4).symm.trans (hF.slot 4 (by kernel_rfl))
              have g5 : f 5 = (undef) := (hf 5).symm.trans (hF.slot 5 (by kernel_rfl))
              have g6 : f 6 = (.pointer (some ⟨g + 1, 0, none⟩)) := (hf 6).symm.trans (hF.slot 6 (by kernel_rfl))
              have g7 : f 7 = (.pointer (some ⟨gw, 0, none⟩)) := (hf 7).symm.trans (hF.slot 7 (by kernel_rfl))
              have g8 : f 8 = (.bool false) := (hf 8).symm.trans (hF.slot 8 (by kernel_rfl))
              have g9 : f 9 = (.int .i64 (k : Int)) := (hf 9).symm.trans (hF.slot 9 (by kernel_rfl))
              have g10 : f 10 = (.pointer (some ⟨g, 0, none⟩)) := (hf 10).symm.trans (hF.slot 10 (by kernel_rfl))
              have g11 : f 11 = (.bool true) := (hf 11).symm.trans (hF.slot 11 (by kernel_rfl))
              have g12 : f 12 = (.bool false) := (hf 12).symm.trans (hF.slot 12 (by kernel_rfl))
              have g13 : f 13 = (undef) := (hf 13).symm.trans (hF.slot 13 (by kernel_rfl))
              have g14 : f 14 = (.agg #[.bool true, .slice none 0 0, .slice none 0 0, .slice none 0 0]) := (hf 14).symm.trans (hF.slot 14 (by kernel_rfl))
              have g73 : f 73 = (undef) := (hf 73).symm.trans (hF.slot 73 (by kernel_rfl))
              have g74 : f 74 = (undef) := (hf 74).symm.trans (hF.slot 74 (by kernel_rfl))
              have g75 : f 75 = (undef) := (hf 75).symm.trans (hF.slot 75 (by kernel_rfl))
              have g76 : f 76 = (undef) := (hf 76).symm.trans (hF.slot 76 (by kernel_rfl))
              have g77 : f 77 = (undef) := (hf 77).symm.trans (hF.slot 77 (by kernel_rfl))
              have g78 : f 78 = (undef) := (hf 78).symm.trans (hF.slot 78 (by kernel_rfl))
              have g79 : f 79 = (undef) := (hf 79).symm.trans (hF.slot 79 (by kernel_rfl))
              have g80 : f 80 = (undef) := (hf 80).symm.trans (hF.slot 80 (by kernel_rfl))
              have g81 : f 81 = (undef) := (hf 81).symm.trans (hF.slot 81 (by kernel_rfl))
              have g82 : f 82 = (undef) := (hf 82).symm.trans (hF.slot 82 (by kernel_rfl))
              have g83 : f 83 = (undef) := (hf 83).symm.trans (hF.slot 83 (by kernel_rfl))
              have g84 : f 84 = (undef) := (hf 84).symm.trans (hF.slot 84 (by kernel_rfl))
              have g85 : f 85 = (undef) := (hf 85).symm.trans (hF.slot 85 (by kernel_rfl))
              have g86 : f 86 = (undef) := (hf 86).symm.trans (hF.slot 86 (by kernel_rfl))
              have g87 : f 87 = (undef) := (hf 87).symm.trans (hF.slot 87 (by kernel_rfl))
              have g34 : f 34 = (.pointer (some ⟨gw, 1, none⟩)) := (hf 34).symm.trans (F 0 34 rfl)
              have g35 : f 35 = (.slice KA SK.length kca) := (hf 35).symm.trans (F 1 35 rfl)
              have g36 : f 36 = (.string key) := (hf 36).symm.trans (F 2 36 rfl)
              obtain ⟨x37, g37⟩ : ∃ x, f 37 = x := ⟨_, rfl⟩
              have f3 : Bs gw KA XA (.string key) x37 w := by rw [← g37, ← hf 37]; exact F 3 37 rfl
              have g39 : f 39 = (.pointer (some ⟨gw, 2, none⟩)) := (hf 39).symm.trans (F 5 39 rfl)
              have g40 : f 40 = (.slice XA SX.length xca) := (hf 40).symm.trans (F 6 40 rfl)
              have g41 : f 41 = (.string value) := (hf 41).symm.trans (F 7 41 rfl)
              obtain ⟨x42, g42⟩ : ∃ x, f 42 = x := ⟨_, rfl⟩
              have f8 : Bs gw XA KA (.string value) x42 w := by rw [← g42, ← hf 42]; exact F 8 42 rfl
              have g44 : f 44 = (.pointer (some ⟨gw, 1, none⟩)) := (hf 44).symm.trans (F 10 44 rfl)
              have g45 : f 45 = (.pointer (some ⟨gw, 2, none⟩)) := (hf 45).symm.trans (F 12 45 rfl)
              have ha := Frames.frame (show a.tmps.size = 88 from hF.size) hF.defers hf (l := [f 0, f 1, f 2, f 3, f 4, f 5, f 6, f 7, f 8, f 9, f 10, f 11, f 12, f 13, f 14, f 15, f 16, f 17, f 18, f 19, f 20, f 21, f 22, f 23, f 24, f 25, f 26, f 27, f 28, f 29, f 30, f 31, f 32, f 33, f 34, f 35, f 36, f 37, f 38, f 39, f 40, f 41, f 42, f 43, f 44, f 45, f 46, f 47, f 48, f 49, f 50, f 51, f 52, f 53, f 54, f 55, f 56, f 57, f 58, f 59, f 60, f 61, f 62, f 63, f 64, f 65, f 66, f 67, f 68, f 69, f 70, f 71, f 72, f 73, f 74, f 75, f 76, f 77, f 78, f 79, f 80, f 81, f 82, f 83, f 84, f 85, f 86, f 87]) rfl
              simp only [g0, g1, g2, g3, g4, g5, g6, g7, g8, g9, g10, g11, g12, g13, g14, g73, g74, g75, g76, g77, g78, g79, g80, g81, g82, g83, g84, g85, g86, g87, g34, g35, g36, g37, g39, g40, g41, g42, g44, g45] at ha
              clear F hF hf g0 g1 g2 g3 g4 g5 g6 g7 g8 g9 g10 g11 g12 g13 g14 g73 g74 g75 g76 g77 g78 g79 g80 g81 g82 g83 g84 g85 g86 g87 g34 g35 g36 g37 g39 g40 g41 g42 g44 g45
              subst ha
              have hout := out_fin HSK.out HSX.out hw9
              clear HSK HSX HSL hw9
              obtain ⟨c1, c2, c3, c4⟩ := HXK.out w hout.b
              go_wp2_with fail
              go_roundw
              case rel => exact ⟨k + 1, true, acc ++ [(key, value)], by omega, by rw [HTK.out]; exact acc_eq HACC.out HLS.out HE.out, rfl, by go_num, hout⟩
              case measure => simp [intOf]; omega
          · skip
            have HE := Lib.hid hpe
            have heqb : (p1.toList == key.toList) = false := by rw [Str.ba_beq, decide_eq_false_iff_not]; exact hpe
            clear hpe
            have hbl := Below_b (w := wr) p1 key HPS.out HKS.out
            obtain ⟨c1, c2, c3, c4⟩ := HXK.out wr hout.b
            rw [hls] at hbl
            have HLS := Lib.hid hls
            clear hls
            go_wp2_with fail
            refine hbl.mono ?_
            rintro e w5 ⟨rfl, b5⟩
            clear hbl c1 c2 c3 c4
            have hout := hout.below b5
            clear b5
            go_wp2_with fail
            have HLE := Lib.hid (show acc.length ≤ 50000 by have h1 := HACC.out.len; have h2 := HLL.out; rw [List.length_take] at h1; (try simp only [List.length_append, List.length_singleton]); omega)
            obtain ⟨KA, kca, XA, xca, SK, SX, hw8, hSK, hSX⟩ := hout.gen
            have HSK := Lib.hid hSK
            have HSX := Lib.hid hSX
            have HSL := Lib.hid (show SK.length ≤ 100000 ∧ SX.length ≤ 100000 by rw [hSK, hSX]; simp only [strs, ks, vs, List.length_map]; have := HLE.out; omega)
            clear hSK hSX hout
            have hJ0 := fun a0 : Act => Duo.start (a1 := 4) (s1 := 11) (a2 := 9) (s2 := 13) (d1 := 38) (d2 := 43) (u := .string key) (v := .string value) (hw8.below (Below.refl _ _).drew) a0
            clear hw8
            refine wp_region_any (by kernel_rfl) ?_
            change wpAny _ _ _ _ _ _ _ (World.drew _)
            refine Inv4.inv_any (fun (i : Nat) (v : Value) (w : World) => match i with | 0 => v = .pointer (some ⟨gw, 1, none⟩) | 1 => v = .slice KA SK.length kca | 2 => v = .string key | 3 => Bs gw KA XA (.string key) v w | 5 => v = .pointer (some ⟨gw, 2, none⟩) | 6 => v = .slice XA SX.length xca | 7 => v = .string value | 8 => Bs gw XA KA (.string value) v w | 10 => v = .pointer (some ⟨gw, 1, none⟩) | 12 => v = .pointer (some ⟨gw, 2, none⟩) | _ => True) (Rd gw KA XA) (fun q a w => Duo gw W1 4 11 9 13 38 43 1 2 KA kca SK (.string key) XA xca SX (.string value) (World.drew w5).heap.size q a w) _ ?_ 88 rfl rfl rfl (by kernel_rfl) (hJ0 _) ?_ ?_
            · intro j v w w' h hb
              match j, h with
              | 0, h => exact h
              | 1, h => exact h
              | 2, h => exact h
              | 3, h => exact Bs.last h hb
              | 5, h => exact h
              | 6, h => exact h
              | 7, h => exact h
              | 8, h => exact Bs.last h hb.swap
              | 10, h => exact h
              | 12, h => exact h
              | 4, _ => exact trivial
              | 9, _ => exact trivial
              | 11, _ => exact trivial
              | 13, _ => exact trivial
              | (_ + 14), _ => exact trivial
            · skip
              refine Inv4.from_cons _ _ _ _ rfl (fun q a w hq hD hJ hF F K hK => ?_) ?_
              · have hz : a.tmps.size = 88 := hF.size
                have e7 : a.tmps[7]? = some (.pointer (some ⟨gw, 0, none⟩)) := Inv2.some_slot (by rw [hz]; exact Nat.le_of_ble_eq_true rfl) (hF.slot 7 (by kernel_rfl))
                clear F hF
                clear hz
                go_simp
                exact hK (.pointer (some ⟨gw, 1, none⟩)) _ rfl ((rd_below (Below.refl _ _))) (hJ.quiet (Below.refl _ _) rfl rfl rfl rfl (by decide) (by decide))
              refine Inv4.from_cons _ _ _ _ rfl (fun q a w hq hD hJ hF F K hK => ?_) ?_
              · have hz : a.tmps.size = 88 := hF.size
                have e34 : a.tmps[34]? = some (.pointer (some ⟨gw, 1, none⟩)) := Inv2.some_slot (by rw [hz]; exact Nat.le_of_ble_eq_true rfl) ((F 0 (by kernel_rfl)).2 34 rfl)
                clear F hF
                clear hz
                have hld := hJ.ld (hD.no hq (by kernel_rfl))
                go_simp
                exact hK (.slice KA SK.length kca) _ rfl (rd_below (Below.refl _ _)) (hJ.quiet (Below.refl _ _) rfl rfl rfl rfl (by decide) (by decide))
              refine Inv4.from_cons _ _ _ _ rfl (fun q a w hq hD hJ hF F K hK => ?_) ?_
              · have hz : a.tmps.size = 88 := hF.size
                have e1 : a.tmps[1]? = some (.string key) := Inv2.some_slot (by rw [hz]; exact Nat.le_of_ble_eq_true rfl) (hF.slot 1 (by kernel_rfl))
                clear F hF
                clear hz
                go_simp
                exact hK (.string key) _ rfl ((rd_below (Below.refl _ _))) (hJ.quiet (Below.refl _ _) rfl rfl rfl rfl (by decide) (by decide))
              refine Inv4.from_cons _ _ _ _ rfl (fun q a w hq hD hJ hF F K hK => ?_) ?_
              · have hz : a.tmps.size = 88 := hF.size
                have e36 : a.tmps[36]? = some (.string key) := Inv2.some_slot (by rw [hz]; exact Nat.le_of_ble_eq_true rfl) ((F 2 (by kernel_rfl)).2 36 rfl)
                clear F hF
                clear hz
                have hnew := hJ.new (.string key)
                go_simp
                exact hK _ _ hnew (rd_below (al _ _)) (hJ.quiet (al _ _) rfl rfl rfl rfl (by decide) (by decide))
              refine Inv4.from_cons _ _ _ _ rfl (fun q a w hq hD hJ hF F K hK => ?_) ?_
              · have hz : a.tmps.size = 88 := hF.size
                have e35 : a.tmps[35]? = some (.slice KA SK.length kca) := Inv2.some_slot (by rw [hz]; exact Nat.le_of_ble_eq_true rfl) ((F 1 (by kernel_rfl)).2 35 rfl)
                obtain ⟨x37, e37, f3⟩ : ∃ x, a.tmps[37]? = some x ∧ Bs gw KA XA (.string key) x w := ⟨_, Inv2.some_slot (by rw [hz]; exact Nat.le_of_ble_eq_true rfl) rfl, (F 3 (by kernel_rfl)).2 37 rfl⟩
                clear F hF
                have hsz : 38 < a.tmps.size := by rw [hz]; exact Nat.le_of_ble_eq_true rfl
                clear hz
                obtain ⟨g8, K2, kc2, w', rfl, hrun, hR, hJ2⟩ := hJ.app hq (hD.no hq (by kernel_rfl)) hsz (by decide) rfl rfl rfl f3 rfl SK.length rfl HSL.out.1
                refine NodeEnt.step_append_d (d := 38) rfl rfl (.tmp 35) (.tmp 37) 22 22 rfl (vs := .slice KA SK.length kca) (vx := .slice (some ⟨g8, 0, none⟩) 1 1) (by simp [Act.eval, e35]) (by simp [Act.eval, e37]) hrun ?_
                exact hK _ _ trivial hR hJ2
              refine Inv4.from_cons _ _ _ _ rfl (fun q a w hq hD hJ hF F K hK => ?_) ?_
              · have hz : a.tmps.size = 88 := hF.size
                have e7 : a.tmps[7]? = some (.pointer (some ⟨gw, 0, none⟩)) := Inv2.some_slot (by rw [hz]; exact Nat.le_of_ble_eq_true rfl) (hF.slot 7 (by kernel_rfl))
                clear F hF
                clear hz
                go_simp
                exact hK (.pointer (some ⟨gw, 2, none⟩)) _ rfl ((rd_below (Below.refl _ _))) (hJ.quiet (Below.refl _ _) rfl rfl rfl rfl (by decide) (by decide))
              refine Inv4.from_cons _ _ _ _ rfl (fun q a w hq hD hJ hF F K hK => ?_) ?_
              · have hz : a.tmps.size = 88 := hF.size
                have e39 : a.tmps[39]? = some (.pointer (some ⟨gw, 2, none⟩)) := Inv2.some_slot (by rw [hz]; exact Nat.le_of_ble_eq_true rfl) ((F 5 (by kernel_rfl)).2 39 rfl)
                clear F hF
                clear hz
                have hld := hJ.swap.ld (hD.no hq (by kernel_rfl))
                go_simp
                exact hK (.slice XA SX.length xca) _ rfl (rd_below (Below.refl _ _)) (hJ.quiet (Below.refl _ _) rfl rfl rfl rfl (by decide) (by decide))
              refine Inv4.from_cons _ _ _ _ rfl (fun q a w hq hD hJ hF F K hK => ?_) ?_
              · have hz : a.tmps.size = 88 := hF.size
                have e2 : a.tmps[2]? = some (.string value) := Inv2.some_slot (by rw [hz]; exact Nat.le_of_ble_eq_true rfl) (hF.slot 2 (by kernel_rfl))
                clear F hF
                clear hz
                go_simp
                exact hK (.string value) _ rfl ((rd_below (Below.refl _ _))) (hJ.quiet (Below.refl _ _) rfl rfl rfl rfl (by decide) (by decide))
              refine Inv4.from_cons _ _ _ _ rfl (fun q a w hq hD hJ hF F K hK => ?_) ?_
              · have hz : a.tmps.size = 88 := hF.size
                have e41 : a.tmps[41]? = some (.string value) := Inv2.some_slot (by rw [hz]; exact Nat.le_of_ble_eq_true rfl) ((F 7 (by kernel_rfl)).2 41 rfl)
                clear F hF
                clear hz
                have hnew := hJ.swap.new (.string value)
                go_simp
                exact hK _ _ hnew (rd_below (al _ _)) (hJ.quiet (al _ _) rfl rfl rfl rfl (by decide) (by decide))
              refine Inv4.from_cons _ _ _ _ rfl (fun q a w hq hD hJ hF F K hK => ?_) ?_
              · have hz : a.tmps.size = 88 := hF.size
                have e40 : a.tmps[40]? = some (.slice XA SX.length xca) := Inv2.some_slot (by rw [hz]; exact Nat.le_of_ble_eq_true rfl) ((F 6 (by kernel_rfl)).2 40 rfl)
                obtain ⟨x42, e42, f8⟩ : ∃ x, a.tmps[42]? = some x ∧ Bs gw XA KA (.string value) x w := ⟨_, Inv2.some_slot (by rw [hz]; exact Nat.le_of_ble_eq_true rfl) rfl, (F 8 (by kernel_rfl)).2 42 rfl⟩
                clear F hF
                have hsz : 43 < a.tmps.size := by rw [hz]; exact Nat.le_of_ble_eq_true rfl
                clear hz
                obtain ⟨g8, K2, kc2, w', rfl, hrun, hR, hJ2⟩ := hJ.swap.app hq (hD.no hq (by kernel_rfl)) hsz (by decide) rfl rfl rfl f8 rfl SX.length rfl HSL.out.2
                refine NodeEnt.step_append_d (d := 43) rfl rfl (.tmp 40) (.tmp 42) 22 22 rfl (vs := .slice XA SX.length xca) (vx := .slice (some ⟨g8, 0, none⟩) 1 1) (by simp [Act.eval, e40]) (by simp [Act.eval, e42]) hrun ?_
                exact hK _ _ trivial hR.swap hJ2.swap
              refine Inv4.from_cons _ _ _ _ rfl (fun q a w hq hD hJ hF F K hK => ?_) ?_
              · have hz : a.tmps.size = 88 := hF.size
                have e7 : a.tmps[7]? = some (.pointer (some ⟨gw, 0, none⟩)) := Inv2.some_slot (by rw [hz]; exact Nat.le_of_ble_eq_true rfl) (hF.slot 7 (by kernel_rfl))
                have e34 : a.tmps[34]? = some (.pointer (some ⟨gw, 1, none⟩)) := Inv2.some_slot (by rw [hz]; exact Nat.le_of_ble_eq_true rfl) ((F 0 (by kernel_rfl)).2 34 rfl)
                have e35 : a.tmps[35]? = some (.slice KA SK.length kca) := Inv2.some_slot (by rw [hz]; exact Nat.le_of_ble_eq_true rfl) ((F 1 (by kernel_rfl)).2 35 rfl)
                have e36 : a.tmps[36]? = some (.string key) := Inv2.some_slot (by rw [hz]; exact Nat.le_of_ble_eq_true rfl) ((F 2 (by kernel_rfl)).2 36 rfl)
                obtain ⟨x37, e37, f3⟩ : ∃ x, a.tmps[37]? = some x ∧ Bs gw KA XA (.string key) x w := ⟨_, Inv2.some_slot (by rw [hz]; exact Nat.le_of_ble_eq_true rfl) rfl, (F 3 (by kernel_rfl)).2 37 rfl⟩
                have e39 : a.tmps[39]? = some (.pointer (some ⟨gw, 2, none⟩)) := Inv2.some_slot (by rw [hz]; exact Nat.le_of_ble_eq_true rfl) ((F 5 (by kernel_rfl)).2 39 rfl)
                have e40 : a.tmps[40]? = some (.slice XA SX.length xca) := Inv2.some_slot (by rw [hz]; exact Nat.le_of_ble_eq_true rfl) ((F 6 (by kernel_rfl)).2 40 rfl)
                clear F hF
                clear hz
                go_simp
                exact hK (.pointer (some ⟨gw, 1, none⟩)) _ rfl ((rd_below (Below.refl _ _))) (hJ.quiet (Below.refl _ _) rfl rfl rfl rfl (by decide) (by decide))
              refine Inv4.from_cons _ _ _ _ rfl (fun q a w hq hD hJ hF F K hK => ?_) ?_
              · have hz : a.tmps.size = 88 := hF.size
                have e34 : a.tmps[34]? = some (.pointer (some ⟨gw, 1, none⟩)) := Inv2.some_slot (by rw [hz]; exact Nat.le_of_ble_eq_true rfl) ((F 0 (by kernel_rfl)).2 34 rfl)
                have e35 : a.tmps[35]? = some (.slice KA SK.length kca) := Inv2.some_slot (by rw [hz]; exact Nat.le_of_ble_eq_true rfl) ((F 1 (by kernel_rfl)).2 35 rfl)
                have e36 : a.tmps[36]? = some (.string key) := Inv2.some_slot (by rw [hz]; exact Nat.le_of_ble_eq_true rfl) ((F 2 (by kernel_rfl)).2 36 rfl)
                obtain ⟨x37, e37, f3⟩ : ∃ x, a.tmps[37]? = some x ∧ Bs gw KA XA (.string key) x w := ⟨_, Inv2.some_slot (by rw [hz]; exact Nat.le_of_ble_eq_true rfl) rfl, (F 3 (by kernel_rfl)).2 37 rfl⟩
                have b4 := (F 4 (by kernel_rfl)).1
                have e39 : a.tmps[39]? = some (.pointer (some ⟨gw, 2, none⟩)) := Inv2.some_slot (by rw [hz]; exact Nat.le_of_ble_eq_true rfl) ((F 5 (by kernel_rfl)).2 39 rfl)
                have e40 : a.tmps[40]? = some (.slice XA SX.length xca) := Inv2.some_slot (by rw [hz]; exact Nat.le_of_ble_eq_true rfl) ((F 6 (by kernel_rfl)).2 40 rfl)
                have e44 : a.tmps[44]? = some (.pointer (some ⟨gw, 1, none⟩)) := Inv2.some_slot (by rw [hz]; exact Nat.le_of_ble_eq_true rfl) ((F 10 (by kernel_rfl)).2 44 rfl)
                clear F hF
                obtain ⟨K2, kc2, hv⟩ := hJ.val b4
                have e38 : a.tmps[38]? = some (.slice K2 (SK.length + 1) kc2) := Inv2.some_slot (by rw [hz]; exact Nat.le_of_ble_eq_true rfl) hv
                clear hz
                obtain ⟨⟨u0, hc0⟩, hz0⟩ := hJ.cell
                obtain ⟨hR, hJ2⟩ := hJ.st rfl rfl rfl (by decide) (by decide) (by decide) (by decide) hv undef
                clear hv
                go_simp
                exact hK undef _ trivial hR hJ2
              refine Inv4.from_cons _ _ _ _ rfl (fun q a w hq hD hJ hF F K hK => ?_) ?_
              · have hz : a.tmps.size = 88 := hF.size
                have e7 : a.tmps[7]? = some (.pointer (some ⟨gw, 0, none⟩)) := Inv2.some_slot (by rw [hz]; exact Nat.le_of_ble_eq_true rfl) (hF.slot 7 (by kernel_rfl))
                have e34 : a.tmps[34]? = some (.pointer (some ⟨gw, 1, none⟩)) := Inv2.some_slot (by rw [hz]; exact Nat.le_of_ble_eq_true rfl) ((F 0 (by kernel_rfl)).2 34 rfl)
                have e35 : a.tmps[35]? = some (.slice KA SK.length kca) := Inv2.some_slot (by rw [hz]; exact Nat.le_of_ble_eq_true rfl) ((F 1 (by kernel_rfl)).2 35 rfl)
                have e36 : a.tmps[36]? = some (.string key) := Inv2.some_slot (by rw [hz]; exact Nat.le_of_ble_eq_true rfl) ((F 2 (by kernel_rfl)).2 36 rfl)
                obtain ⟨x37, e37, f3⟩ : ∃ x, a.tmps[37]? = some x ∧ Bs gw KA XA (.string key) x w := ⟨_, Inv2.some_slot (by rw [hz]; exact Nat.le_of_ble_eq_true rfl) rfl, (F 3 (by kernel_rfl)).2 37 rfl⟩
                have e39 : a.tmps[39]? = some (.pointer (some ⟨gw, 2, none⟩)) := Inv2.some_slot (by rw [hz]; exact Nat.le_of_ble_eq_true rfl) ((F 5 (by kernel_rfl)).2 39 rfl)
                have e40 : a.tmps[40]? = some (.slice XA SX.length xca) := Inv2.some_slot (by rw [hz]; exact Nat.le_of_ble_eq_true rfl) ((F 6 (by kernel_rfl)).2 40 rfl)
                have e41 : a.tmps[41]? = some (.string value) := Inv2.some_slot (by rw [hz]; exact Nat.le_of_ble_eq_true rfl) ((F 7 (by kernel_rfl)).2 41 rfl)
                obtain ⟨x42, e42, f8⟩ : ∃ x, a.tmps[42]? = some x ∧ Bs gw XA KA (.string value) x w := ⟨_, Inv2.some_slot (by rw [hz]; exact Nat.le_of_ble_eq_true rfl) rfl, (F 8 (by kernel_rfl)).2 42 rfl⟩
                have e44 : a.tmps[44]? = some (.pointer (some ⟨gw, 1, none⟩)) := Inv2.some_slot (by rw [hz]; exact Nat.le_of_ble_eq_true rfl) ((F 10 (by kernel_rfl)).2 44 rfl)
                clear F hF
                clear hz
                go_simp
                exact hK (.pointer (some ⟨gw, 2, none⟩)) _ rfl ((rd_below (Below.refl _ _))) (hJ.quiet (Below.refl _ _) rfl rfl rfl rfl (by decide) (by decide))
              refine Inv4.from_cons _ _ _ _ rfl (fun q a w hq hD hJ hF F K hK => ?_) ?_
              · have hz : a.tmps.size = 88 := hF.size
                have e34 : a.tmps[34]? = some (.pointer (some ⟨gw, 1, none⟩)) := Inv2.some_slot (by rw [hz]; exact Nat.le_of_ble_eq_true rfl) ((F 0 (by kernel_rfl)).2 34 rfl)
                have e35 : a.tmps[35]? = some (.slice KA SK.length kca) := Inv2.some_slot (by rw [hz]; exact Nat.le_of_ble_eq_true rfl) ((F 1 (by kernel_rfl)).2 35 rfl)
                have e36 : a.tmps[36]? = some (.string key) := Inv2.some_slot (by rw [hz]; exact Nat.le_of_ble_eq_true rfl) ((F 2 (by kernel_rfl)).2 36 rfl)
                obtain ⟨x37, e37, f3⟩ : ∃ x, a.tmps[37]? = some x ∧ Bs gw KA XA (.string key) x w := ⟨_, Inv2.some_slot (by rw [hz]; exact Nat.le_of_ble_eq_true rfl) rfl, (F 3 (by kernel_rfl)).2 37 rfl⟩
                have e39 : a.tmps[39]? = some (.pointer (some ⟨gw, 2, none⟩)) := Inv2.some_slot (by rw [hz]; exact Nat.le_of_ble_eq_true rfl) ((F 5 (by kernel_rfl)).2 39 rfl)
                have e40 : a.tmps[40]? = some (.slice XA SX.length xca) := Inv2.some_slot (by rw [hz]; exact Nat.le_of_ble_eq_true rfl) ((F 6 (by kernel_rfl)).2 40 rfl)
                have e41 : a.tmps[41]? = some (.string value) := Inv2.some_slot (by rw [hz]; exact Nat.le_of_ble_eq_true rfl) ((F 7 (by kernel_rfl)).2 41 rfl)
                obtain ⟨x42, e42, f8⟩ : ∃ x, a.tmps[42]? = some x ∧ Bs gw XA KA (.string value) x w := ⟨_, Inv2.some_slot (by rw [hz]; exact Nat.le_of_ble_eq_true rfl) rfl, (F 8 (by kernel_rfl)).2 42 rfl⟩
                have b9 := (F 9 (by kernel_rfl)).1
                have e44 : a.tmps[44]? = some (.pointer (some ⟨gw, 1, none⟩)) := Inv2.some_slot (by rw [hz]; exact Nat.le_of_ble_eq_true rfl) ((F 10 (by kernel_rfl)).2 44 rfl)
                have e45 : a.tmps[45]? = some (.pointer (some ⟨gw, 2, none⟩)) := Inv2.some_slot (by rw [hz]; exact Nat.le_of_ble_eq_true rfl) ((F 12 (by kernel_rfl)).2 45 rfl)
                clear F hF
                obtain ⟨K2, kc2, hv⟩ := hJ.swap.val b9
                have e43 : a.tmps[43]? = some (.slice K2 (SX.length + 1) kc2) := Inv2.some_slot (by rw [hz]; exact Nat.le_of_ble_eq_true rfl) hv
                clear hz
                obtain ⟨⟨u0, hc0⟩, hz0⟩ := hJ.swap.cell
                obtain ⟨hR, hJ2⟩ := hJ.swap.st rfl rfl rfl (by decide) (by decide) (by decide) (by decide) hv undef
                clear hv
                go_simp
                exact hK undef _ trivial hR.swap hJ2.swap
              exact Inv4.from_end _ _ _ _ (by decide +kernel)
            · intro a w hJ hF F
              obtain ⟨f, hf⟩ : ∃ f : Nat → Value, ∀ i, a.tmps.getD i undef = f i := ⟨_, fun _ => rfl⟩
              obtain ⟨K2, kc2, X2, xc2, hw9⟩ := hJ.fin (by decide +kernel) (by decide +kernel) (by decide +kernel) (by decide +kernel)
              clear hJ
              have g0 : f 0 = (nv n h) := (hf 0).symm.trans (hF.slot 0 (by kernel_rfl))
              have g1 : f 1 = (.string key) := (hf 1).symm.trans (hF.slot 1 (by kernel_rfl))
              have g2 : f 2 = (.string value) := (hf 2).symm.trans (hF.slot 2 (by kernel_rfl))
              have g3 : f 3 = (.pointer (some ⟨g, 0, none⟩)) := (hf 3).symm.trans (hF.slot 3 (by kernel_rfl))
              have g4 : f 4 = (undef) := (hf 4).symm.trans (hF.slot 4 (by kernel_rfl))
              have g5 : f 5 = (undef) := (hf 5).symm.trans (hF.slot 5 (by kernel_rfl))
              have g6 : f 6 = (.pointer (some ⟨g + 1, 0, none⟩)) := (hf 6).symm.trans (hF.slot 6 (by kernel_rfl))
              have g7 : f 7 = (.pointer (some ⟨gw, 0, none⟩)) := (hf 7).symm.trans (hF.slot 7 (by kernel_rfl))
              have g8 : f 8 = (.bool false) := (hf 8).symm.trans (hF.slot 8 (by kernel_rfl))
              have g9 : f 9 = (.int .i64 (k : Int)) := (hf 9).symm.trans (hF.slot 9 (by kernel_rfl))
              have g10 : f 10 = (.pointer (some ⟨g, 0, none⟩)) := (hf 10).symm.trans (hF.slot 10 (by kernel_rfl))
              have g11 : f 11 = (.bool true) := (hf 11).symm.trans (hF.slot 11 (by kernel_rfl))
              have g12 : f 12 = (.bool false) := (hf 12).symm.trans (hF.slot 12 (by kernel_rfl))
              have g13 : f 13 = (undef) := (hf 13).symm.trans (hF.slot 13 (by kernel_rfl))
              have g14 : f 14 = (.agg #[.bool true, .slice none 0 0, .slice none 0 0, .slice none 0 0]) := (hf 14).symm.trans (hF.slot 14 (by kernel_rfl))
              have g73 : f 73 = (undef) := (hf 73).symm.trans (hF.slot 73 (by kernel_rfl))
              have g74 : f 74 = (undef) := (hf 74).symm.trans (hF.slot 74 (by kernel_rfl))
              have g75 : f 75 = (undef) := (hf 75).symm.trans (hF.slot 75 (by kernel_rfl))
              have g76 : f 76 = (undef) := (hf 76).symm.trans (hF.slot 76 (by kernel_rfl))
              have g77 : f 77 = (undef) := (hf 77).symm.trans (hF.slot 77 (by kernel_rfl))
              have g78 : f 78 = (undef) := (hf 78).symm.trans (hF.slot 78 (by kernel_rfl))
              have g79 : f 79 = (undef) := (hf 79).symm.trans (hF.slot 79 (by kernel_rfl))
              have g80 : f 80 = (undef) := (hf 80).symm.trans (hF.slot 80 (by kernel_rfl))
              have g81 : f 81 = (undef) := (hf 81).symm.trans (hF.slot 81 (by kernel_rfl))
              have g82 : f 82 = (undef) := (hf 82).symm.trans (hF.slot 82 (by kernel_rfl))
              have g83 : f 83 = (undef) := (hf 83).symm.trans (hF.slot 83 (by kernel_rfl))
              have g84 : f 84 = (undef) := (hf 84).symm.trans (hF.slot 84 (by kernel_rfl))
              have g85 : f 85 = (undef) := (hf 85).symm.trans (hF.slot 85 (by kernel_rfl))
              have g86 : f 86 = (undef) := (hf 86).symm.trans (hF.slot 86 (by kernel_rfl))
              have g87 : f 87 = (undef) := (hf 87).symm.trans (hF.slot 87 (by kernel_rfl))
              have g34 : f 34 = (.pointer (some ⟨gw, 1, none⟩)) := (hf 34).symm.trans (F 0 34 rfl)
              have g35 : f 35 = (.slice KA SK.length kca) := (hf 35).symm.trans (F 1 35 rfl)
              have g36 : f 36 = (.string key) := (hf 36).symm.trans (F 2 36 rfl)
              obtain ⟨x37, g37⟩ : ∃ x, f 37 = x := ⟨_, rfl⟩
              have f3 : Bs gw KA XA (.string key) x37 w := by rw [← g37, ← hf 37]; exact F 3 37 rfl
              have g39 : f 39 = (.pointer (some ⟨gw, 2, none⟩)) := (hf 39).symm.trans (F 5 39 rfl)
              have g40 : f 40 = (.slice XA SX.length xca) := (hf 40).symm.trans (F 6 40 rfl)
              have g41 : f 41 = (.string value) := (hf 41).symm.trans (F 7 41 rfl)
              obtain ⟨x42, g42⟩ : ∃ x, f 42 = x := ⟨_, rfl⟩
              have f8 : Bs gw XA KA (.string value) x42 w := by rw [← g42, ← hf 42]; exact F 8 42 rfl
              have g44 : f 44 = (.pointer (some ⟨gw, 1, none⟩)) := (hf 44).symm.trans (F 10 44 rfl)
              have g45 : f 45 = (.pointer (some ⟨gw, 2, none⟩)) := (hf 45).symm.trans (F 12 45 rfl)
              have ha := Frames.frame (show a.tmps.size = 88 from hF.size) hF.defers hf (l := [f 0, f 1, f 2, f 3, f 4, f 5, f 6, f 7, f 8, f 9, f 10, f 11, f 12, f 13, f 14, f 15, f 16, f 17, f 18, f 19, f 20, f 21, f 22, f 23, f 24, f 25, f 26, f 27, f 28, f 29, f 30, f 31, f 32, f 33, f 34, f 35, f 36, f 37, f 38, f 39, f 40, f 41, f 42, f 43, f 44, f 45, f 46, f 47, f 48, f 49, f 50, f 51, f 52, f 53, f 54, f 55, f 56, f 57, f 58, f 59, f 60, f 61, f 62, f 63, f 64, f 65, f 66, f 67, f 68, f 69, f 70, f 71, f 72, f 73, f 74, f 75, f 76, f 77, f 78, f 79, f 80, f 81, f 82, f 83, f 84, f 85, f 86, f 87]) rfl
              simp only [g0, g1, g2, g3, g4, g5, g6, g7, g8, g9, g10, g11, g12, g13, g14, g73, g74, g75, g76, g77, g78, g79, g80, g81, g82, g83, g84, g85, g86, g87, g34, g35, g36, g37, g39, g40, g41, g42, g44, g45] at ha
              clear F hF hf g0 g1 g2 g3 g4 g5 g6 g7 g8 g9 g10 g11 g12 g13 g14 g73 g74 g75 g76 g77 g78 g79 g80 g81 g82 g83 g84 g85 g86 g87 g34 g35 g36 g37 g39 g40 g41 g42 g44 g45
              subst ha
              have hout := out_fin HSK.out HSX.out hw9
              clear HSK HSX HSL hw9
              generalize w = v9 at *
              obtain ⟨c1, c2, c3, c4⟩ := HXK.out v9 hout.b
              clear HLE
              go_wp2_with fail
              clear c1 c2 c3 c4 heqb
              have HLE := Lib.hid (show (acc ++ [(key, value)]).length ≤ 50000 by have h1 := HACC.out.len; have h2 := HLL.out; rw [List.length_take] at h1; (try simp only [List.length_append, List.length_singleton]); omega)
              obtain ⟨KA, kca, XA, xca, SK, SX, hw8, hSK, hSX⟩ := hout.gen
              have HSK := Lib.hid hSK
              have HSX := Lib.hid hSX
              have HSL := Lib.hid (show SK.length ≤ 100000 ∧ SX.length ≤ 100000 by rw [hSK, hSX]; simp only [strs, ks, vs, List.length_map]; have := HLE.out; omega)
              clear hSK hSX hout
              have hJ0 := fun a0 : Act => Duo.start (a1 := 8) (s1 := 19) (a2 := 17) (s2 := 21) (d1 := 61) (d2 := 70) (u := .string p1) (v := .string p2) (hw8.below (Below.refl _ _).drew) a0
              clear hw8
              refine wp_region_any (by kernel_rfl) ?_
              change wpAny _ _ _ _ _ _ _ (World.drew _)
              refine Inv4.inv_any (fun (i : Nat) (v : Value) (w : World) => match i with | 0 => v = .pointer (some ⟨gw, 1, none⟩) | 1 => v = .slice KA SK.length kca | 2 => v = .pointer (some ⟨g, 1, none⟩) | 3 => v = .slice (some ad) n.keys.length h.kc | 4 => v = .int .i64 (k : Int) | 5 => v = .pointer (some (ad.add k)) | 6 => v = .string p1 | 7 => Bs gw KA XA (.string p1) v w | 9 => v = .pointer (some ⟨gw, 2, none⟩) | 10 => v = .slice XA SX.length xca | 11 => v = .pointer (some ⟨g, 2, none⟩) | 12 => v = .slice (some bd) n.vals.length h.vc | 13 => v = .int .i64 (k : Int) | 14 => v = .pointer (some (bd.add k)) | 15 => v = .string p2 | 16 => Bs gw XA KA (.string p2) v w | 18 => v = .pointer (some ⟨gw, 1, none⟩) | 20 => v = .pointer (some ⟨gw, 2, none⟩) | _ => True) (Rd gw KA XA) (fun q a w => Duo gw W1 8 19 17 21 61 70 1 2 KA kca SK (.string p1) XA xca SX (.string p2) (World.drew v9).heap.size q a w) _ ?_ 88 rfl rfl rfl (by kernel_rfl) (hJ0 _) ?_ ?_
              · intro j v w w' h hb
                match j, h with
                | 0, h => exact h
                | 1, h => exact h
                | 2, h => exact h
                | 3, h => exact h
                | 4, h => exact h
                | 5, h => exact h
                | 6, h => exact h
                | 7, h => exact Bs.last h hb
                | 9, h => exact h
                | 10, h => exact h
                | 11, h => exact h
                | 12, h => exact h
                | 13, h => exact h
                | 14, h => exact h
                | 15, h => exact h
                | 16, h => exact Bs.last h hb.swap
                | 18, h => exact h
                | 20, h => exact h
                | 8, _ => exact trivial
                | 17, _ => exact trivial
                | 19, _ => exact trivial
                | 21, _ => exact trivial
                | (_ + 22), _ => exact trivial
              · skip
                refine Inv4.from_cons _ _ _ _ rfl (fun q a w hq hD hJ hF F K hK => ?_) ?_
                · have hz : a.tmps.size = 88 := hF.size
                  have e7 : a.tmps[7]? = some (.pointer (some ⟨gw, 0, none⟩)) := Inv2.some_slot (by rw [hz]; exact Nat.le_of_ble_eq_true rfl) (hF.slot 7 (by kernel_rfl))
                  clear F hF
                  clear hz
                  go_simp
                  exact hK (.pointer (some ⟨gw, 1, none⟩)) _ rfl ((rd_below (Below.refl _ _))) (hJ.quiet (Below.refl _ _) rfl rfl rfl rfl (by decide) (by decide))
                refine Inv4.from_cons _ _ _ _ rfl (fun q a w hq hD hJ hF F K hK => ?_) ?_
                · have hz : a.tmps.size = 88 := hF.size
                  have e53 : a.tmps[53]? = some (.pointer (some ⟨gw, 1, none⟩)) := Inv2.some_slot (by rw [hz]; exact Nat.le_of_ble_eq_true rfl) ((F 0 (by kernel_rfl)).2 53 rfl)
                  clear F hF
                  clear hz
                  have hld := hJ.ld (hD.no hq (by kernel_rfl))
                  go_simp
                  exact hK (.slice KA SK.length kca) _ rfl (rd_below (Below.refl _ _)) (hJ.quiet (Below.refl _ _) rfl rfl rfl rfl (by decide) (by decide))
                refine Inv4.from_cons _ _ _ _ rfl (fun q a w hq hD hJ hF F K hK => ?_) ?_
                · have hz : a.tmps.size = 88 := hF.size
                  have e3 : a.tmps[3]? = some (.pointer (some ⟨g, 0, none⟩)) := Inv2.some_slot (by rw [hz]; exact Nat.le_of_ble_eq_true rfl) (hF.slot 3 (by kernel_rfl))
                  clear F hF
                  clear hz
                  go_simp
                  exact hK (.pointer (some ⟨g, 1, none⟩)) _ rfl ((rd_below (Below.refl _ _))) (hJ.quiet (Below.refl _ _) rfl rfl rfl rfl (by decide) (by decide))
                refine Inv4.from_cons _ _ _ _ rfl (fun q a w hq hD hJ hF F K hK => ?_) ?_
                · have hz : a.tmps.size = 88 := hF.size
                  have e55 : a.tmps[55]? = some (.pointer (some ⟨g, 1, none⟩)) := Inv2.some_slot (by rw [hz]; exact Nat.le_of_ble_eq_true rfl) ((F 2 (by kernel_rfl)).2 55 rfl)
                  clear F hF
                  clear hz
                  obtain ⟨c1, c2, c3, c4⟩ := HXK.out w hJ.below
                  go_simp
                  exact hK (.slice (some ad) n.keys.length h.kc) _ rfl (rd_below (Below.refl _ _)) (hJ.quiet (Below.refl _ _) rfl rfl rfl rfl (by decide) (by decide))
                refine Inv4.from_cons _ _ _ _ rfl (fun q a w hq hD hJ hF F K hK => ?_) ?_
                · have hz : a.tmps.size = 88 := hF.size
                  have e9 : a.tmps[9]? = some (.int .i64 (k : Int)) := Inv2.some_slot (by rw [hz]; exact Nat.le_of_ble_eq_true rfl) (hF.slot 9 (by kernel_rfl))
                  clear F hF
                  clear hz
                  go_simp
                  exact hK (.int .i64 (k : Int)) _ rfl ((rd_below (Below.refl _ _))) (hJ.quiet (Below.refl _ _) rfl rfl rfl rfl (by decide) (by decide))
                refine Inv4.from_cons _ _ _ _ rfl (fun q a w hq hD hJ hF F K hK => ?_) ?_
                · have hz : a.tmps.size = 88 := hF.size
                  have e56 : a.tmps[56]? = some (.slice (some ad) n.keys.length h.kc) := Inv2.some_slot (by rw [hz]; exact Nat.le_of_ble_eq_true rfl) ((F 3 (by kernel_rfl)).2 56 rfl)
                  have e57 : a.tmps[57]? = some (.int .i64 (k : Int)) := Inv2.some_slot (by rw [hz]; exact Nat.le_of_ble_eq_true rfl) ((F 4 (by kernel_rfl)).2 57 rfl)
                  clear F hF
                  clear hz
                  go_simp
                  exact hK (.pointer (some (ad.add k))) _ rfl ((rd_below (Below.refl _ _))) (hJ.quiet (Below.refl _ _) rfl rfl rfl rfl (by decide) (by decide))
                refine Inv4.from_cons _ _ _ _ rfl (fun q a w hq hD hJ hF F K hK => ?_) ?_
                · have hz : a.tmps.size = 88 := hF.size
                  have e58 : a.tmps[58]? = some (.pointer (some (ad.add k))) := Inv2.some_slot (by rw [hz]; exact Nat.le_of_ble_eq_true rfl) ((F 5 (by kernel_rfl)).2 58 rfl)
                  clear F hF
                  clear hz
                  obtain ⟨c1, c2, c3, c4⟩ := HXK.out w hJ.below
                  go_simp
                  exact hK (.string p1) _ rfl (rd_below (Below.refl _ _)) (hJ.quiet (Below.refl _ _) rfl rfl rfl rfl (by decide) (by decide))
                refine Inv4.from_cons _ _ _ _ rfl (fun q a w hq hD hJ hF F K hK => ?_) ?_
                · have hz : a.tmps.size = 88 := hF.size
                  have e59 : a.tmps[59]? = some (.string p1) := Inv2.some_slot (by rw [hz]; exact Nat.le_of_ble_eq_true rfl) ((F 6 (by kernel_rfl)).2 59 rfl)
                  clear F hF
                  clear hz
                  have hnew := hJ.new (.string p1)
                  go_simp
                  exact hK _ _ hnew (rd_below (al _ _)) (hJ.quiet (al _ _) rfl rfl rfl rfl (by decide) (by decide))
                refine Inv4.from_cons _ _ _ _ rfl (fun q a w hq hD hJ hF F K hK => ?_) ?_
                · have hz : a.tmps.size = 88 := hF.size
                  have e54 : a.tmps[54]? = some (.slice KA SK.length kca) := Inv2.some_slot (by rw [hz]; exact Nat.le_of_ble_eq_true rfl) ((F 1 (by kernel_rfl)).2 54 rfl)
                  obtain ⟨x60, e60, f7⟩ : ∃ x, a.tmps[60]? = some x ∧ Bs gw KA XA (.string p1) x w := ⟨_, Inv2.some_slot (by rw [hz]; exact Nat.le_of_ble_eq_true rfl) rfl, (F 7 (by kernel_rfl)).2 60 rfl⟩
                  clear F hF
                  have hsz : 61 < a.tmps.size := by rw [hz]; exact Nat.le_of_ble_eq_true rfl
                  clear hz
                  obtain ⟨g8, K2, kc2, w', rfl, hrun, hR, hJ2⟩ := hJ.app hq (hD.no hq (by kernel_rfl)) hsz (by decide) rfl rfl rfl f7 rfl SK.length rfl HSL.out.1
                  refine NodeEnt.step_append_d (d := 61) rfl rfl (.tmp 54) (.tmp 60) 22 22 rfl (vs := .slice KA SK.length kca) (vx := .slice (some ⟨g8, 0, none⟩) 1 1) (by simp [Act.eval, e54]) (by simp [Act.eval, e60]) hrun ?_
                  exact hK _ _ trivial hR hJ2
                refine Inv4.from_cons _ _ _ _ rfl (fun q a w hq hD hJ hF F K hK => ?_) ?_
                · have hz : a.tmps.size = 88 := hF.size
                  have e7 : a.tmps[7]? = some (.pointer (some ⟨gw, 0, none⟩)) := Inv2.some_slot (by rw [hz]; exact Nat.le_of_ble_eq_true rfl) (hF.slot 7 (by kernel_rfl))
                  clear F hF
                  clear hz
                  go_simp
                  exact hK (.pointer (some ⟨gw, 2, none⟩)) _ rfl ((rd_below (Below.refl _ _))) (hJ.quiet (Below.refl _ _) rfl rfl rfl rfl (by decide) (by decide))
                refine Inv4.from_cons _ _ _ _ rfl (fun q a w hq hD hJ hF F K hK => ?_) ?_
                · have hz : a.tmps.size = 88 := hF.size
                  have e62 : a.tmps[62]? = some (.pointer (some ⟨gw, 2, none⟩)) := Inv2.some_slot (by rw [hz]; exact Nat.le_of_ble_eq_true rfl) ((F 9 (by kernel_rfl)).2 62 rfl)
                  clear F hF
                  clear hz
                  have hld := hJ.swap.ld (hD.no hq (by kernel_rfl))
                  go_simp
                  exact hK (.slice XA SX.length xca) _ rfl (rd_below (Below.refl _ _)) (hJ.quiet (Below.refl _ _) rfl rfl rfl rfl (by decide) (by decide))
                refine Inv4.from_cons _ _ _ _ rfl (fun q a w hq hD hJ hF F K hK => ?_) ?_
                · have hz : a.tmps.size = 88 := hF.size
                  have e3 : a.tmps[3]? = some (.pointer (some ⟨g, 0, none⟩)) := Inv2.some_slot (by rw [hz]; exact Nat.le_of_ble_eq_true rfl) (hF.slot 3 (by kernel_rfl))
                  clear F hF
                  clear hz
                  go_simp
                  exact hK (.pointer (some ⟨g, 2, none⟩)) _ rfl ((rd_below (Below.refl _ _))) (hJ.quiet (Below.refl _ _) rfl rfl rfl rfl (by decide) (by decide))
                refine Inv4.from_cons _ _ _ _ rfl (fun q a w hq hD hJ hF F K hK => ?_) ?_
                · have hz : a.tmps.size = 88 := hF.size
                  have e64 : a.tmps[64]? = some (.pointer (some ⟨g, 2, none⟩)) := Inv2.some_slot (by rw [hz]; exact Nat.le_of_ble_eq_true rfl) ((F 11 (by kernel_rfl)).2 64 rfl)
                  clear F hF
                  clear hz
                  obtain ⟨c1, c2, c3, c4⟩ := HXK.out w hJ.below
                  go_simp
                  exact hK (.slice (some bd) n.vals.length h.vc) _ rfl (rd_below (Below.refl _ _)) (hJ.quiet (Below.refl _ _) rfl rfl rfl rfl (by decide) (by decide))
                refine Inv4.from_cons _ _ _ _ rfl (fun q a w hq hD hJ hF F K hK => ?_) ?_
                · have hz : a.tmps.size = 88 := hF.size
                  have e9 : a.tmps[9]? = some (.int .i64 (k : Int)) := Inv2.some_slot (by rw [hz]; exact Nat.le_of_ble_eq_true rfl) (hF.slot 9 (by kernel_rfl))
                  clear F hF
                  clear hz
                  go_simp
                  exact hK (.int .i64 (k : Int)) _ rfl ((rd_below (Below.refl _ _))) (hJ.quiet (Below.refl _ _) rfl rfl rfl rfl (by decide) (by decide))
                refine Inv4.from_cons _ _ _ _ rfl (fun q a w hq hD hJ hF F K hK => ?_) ?_
                · have hz : a.tmps.size = 88 := hF.size
                  have e65 : a.tmps[65]? = some (.slice (some bd) n.vals.length h.vc) := Inv2.some_slot (by rw [hz]; exact Nat.le_of_ble_eq_true rfl) ((F 12 (by kernel_rfl)).2 65 rfl)
                  have e66 : a.tmps[66]? = some (.int .i64 (k : Int)) := Inv2.some_slot (by rw [hz]; exact Nat.le_of_ble_eq_true rfl) ((F 13 (by kernel_rfl)).2 66 rfl)
                  clear F hF
                  clear hz
                  go_simp
                  exact hK (.pointer (some (bd.add k))) _ rfl ((rd_below (Below.refl _ _))) (hJ.quiet (Below.refl _ _) rfl rfl rfl rfl (by decide) (by decide))
                refine Inv4.from_cons _ _ _ _ rfl (fun q a w hq hD hJ hF F K hK => ?_) ?_
                · have hz : a.tmps.size = 88 := hF.size
                  have e67 : a.tmps[67]? = some (.pointer (some (bd.add k))) := Inv2.some_slot (by rw [hz]; exact Nat.le_of_ble_eq_true rfl) ((F 14 (by kernel_rfl)).2 67 rfl)
                  clear F hF
                  clear hz
                  obtain ⟨c1, c2, c3, c4⟩ := HXK.out w hJ.below
                  go_simp
                  exact hK (.string p2) _ rfl (rd_below (Below.refl _ _)) (hJ.quiet (Below.refl _ _) rfl rfl rfl rfl (by decide) (by decide))
                refine Inv4.from_cons _ _ _ _ rfl (fun q a w hq hD hJ hF F K hK => ?_) ?_
                · have hz : a.tmps.size = 88 := hF.size
                  have e68 : a.tmps[68]? = some (.string p2) := Inv2.some_slot (by rw [hz]; exact Nat.le_of_ble_eq_true rfl) ((F 15 (by kernel_rfl)).2 68 rfl)
                  clear F hF
                  clear hz
                  have hnew := hJ.swap.new (.string p2)
                  go_simp
                  exact hK _ _ hnew (rd_below (al _ _)) (hJ.quiet (al _ _) rfl rfl rfl rfl (by decide) (by decide))
                refine Inv4.from_cons _ _ _ _ rfl (fun q a w hq hD hJ hF F K hK => ?_) ?_
                · have hz : a.tmps.size = 88 := hF.size
                  have e63 : a.tmps[63]? = some (.slice XA SX.length xca) := Inv2.some_slot (by rw [hz]; exact Nat.le_of_ble_eq_true rfl) ((F 10 (by kernel_rfl)).2 63 rfl)
                  obtain ⟨x69, e69, f16⟩ : ∃ x, a.tmps[69]? = some x ∧ Bs gw XA KA (.string p2) x w := ⟨_, Inv2.some_slot (by rw [hz]; exact Nat.le_of_ble_eq_true rfl) rfl, (F 16 (by kernel_rfl)).2 69 rfl⟩
                  clear F hF
                  have hsz : 70 < a.tmps.size := by rw [hz]; exact Nat.le_of_ble_eq_true rfl
                  clear hz
                  obtain ⟨g8, K2, kc2, w', rfl, hrun, hR, hJ2⟩ := hJ.swap.app hq (hD.no hq (by kernel_rfl)) hsz (by decide) rfl rfl rfl f16 rfl SX.length rfl HSL.out.2
                  refine NodeEnt.step_append_d (d := 70) rfl rfl (.tmp 63) (.tmp 69) 22 22 rfl (vs := .slice XA SX.length xca) (vx := .slice (some ⟨g8, 0, none⟩) 1 1) (by simp [Act.eval, e63]) (by simp [Act.eval, e69]) hrun ?_
                  exact hK _ _ trivial hR.swap hJ2.swap
                refine Inv4.from_cons _ _ _ _ rfl (fun q a w hq hD hJ hF F K hK => ?_) ?_
                · have hz : a.tmps.size = 88 := hF.size
                  have e7 : a.tmps[7]? = some (.pointer (some ⟨gw, 0, none⟩)) := Inv2.some_slot (by rw [hz]; exact Nat.le_of_ble_eq_true rfl) (hF.slot 7 (by kernel_rfl))
                  have e53 : a.tmps[53]? = some (.pointer (some ⟨gw, 1, none⟩)) := Inv2.some_slot (by rw [hz]; exact Nat.le_of_ble_eq_true rfl) ((F 0 (by kernel_rfl)).2 53 rfl)
                  have e54 : a.tmps[54]? = some (.slice KA SK.length kca) := Inv2.some_slot (by rw [hz]; exact Nat.le_of_ble_eq_true rfl) ((F 1 (by kernel_rfl)).2 54 rfl)
                  have e55 : a.tmps[55]? = some (.pointer (some ⟨g, 1, none⟩)) := Inv2.some_slot (by rw [hz]; exact Nat.le_of_ble_eq_true rfl) ((F 2 (by kernel_rfl)).2 55 rfl)
                  have e56 : a.tmps[56]? = some (.slice (some ad) n.keys.length h.kc) := Inv2.some_slot (by rw [hz]; exact Nat.le_of_ble_eq_true rfl) ((F 3 (by kernel_rfl)).2 56 rfl)
                  have e57 : a.tmps[57]? = some (.int .i64 (k : Int)) := Inv2.some_slot (by rw [hz]; exact Nat.le_of_ble_eq_true rfl) ((F 4 (by kernel_rfl)).2 57 rfl)
                  have e58 : a.tmps[58]? = some (.pointer (some (ad.add k))) := Inv2.some_slot (by rw [hz]; exact Nat.le_of_ble_eq_true rfl) ((F 5 (by kernel_rfl)).2 58 rfl)
                  have e59 : a.tmps[59]? = some (.string p1) := Inv2.some_slot (by rw [hz]; exact Nat.le_of_ble_eq_true rfl) ((F 6 (by kernel_rfl)).2 59 rfl)
                  obtain ⟨x60, e60, f7⟩ : ∃ x, a.tmps[60]? = some x ∧ Bs gw KA XA (.string p1) x w := ⟨_, Inv2.some_slot (by rw [hz]; exact Nat.le_of_ble_eq_true rfl) rfl, (F 7 (by kernel_rfl)).2 60 rfl⟩
                  have e62 : a.tmps[62]? = some (.pointer (some ⟨gw, 2, none⟩)) := Inv2.some_slot (by rw [hz]; exact Nat.le_of_ble_eq_true rfl) ((F 9 (by kernel_rfl)).2 62 rfl)
                  have e63 : a.tmps[63]? = some (.slice XA SX.length xca) := Inv2.some_slot (by rw [hz]; exact Nat.le_of_ble_eq_true rfl) ((F 10 (by kernel_rfl)).2 63 rfl)
                  clear F hF
                  clear hz
                  go_simp
                  exact hK (.pointer (some ⟨gw, 1, none⟩)) _ rfl ((rd_below (Below.refl _ _))) (hJ.quiet (Below.refl _ _) rfl rfl rfl rfl (by decide) (by decide))
                refine Inv4.from_cons _ _ _ _ rfl (fun q a w hq hD hJ hF F K hK => ?_) ?_
                · have hz : a.tmps.size = 88 := hF.size
                  have e53 : a.tmps[53]? = some (.pointer (some ⟨gw, 1, none⟩)) := Inv2.some_slot (by rw [hz]; exact Nat.le_of_ble_eq_true rfl) ((F 0 (by kernel_rfl)).2 53 rfl)
                  have e54 : a.tmps[54]? = some (.slice KA SK.length kca) := Inv2.some_slot (by rw [hz]; exact Nat.le_of_ble_eq_true rfl) ((F 1 (by kernel_rfl)).2 54 rfl)
                  have e55 : a.tmps[55]? = some (.pointer (some ⟨g, 1, none⟩)) := Inv2.some_slot (by rw [hz]; exact Nat.le_of_ble_eq_true rfl) ((F 2 (by kernel_rfl)).2 55 rfl)
                  have e56 : a.tmps[56]? = some (.slice (some ad) n.keys.length h.kc) := Inv2.some_slot (by rw [hz]; exact Nat.le_of_ble_eq_true rfl) ((F 3 (by kernel_rfl)).2 56 rfl)
                  have e57 : a.tmps[57]? = some (.int .i64 (k : Int)) := Inv2.some_slot (by rw [hz]; exact Nat.le_of_ble_eq_true rfl) ((F 4 (by kernel_rfl)).2 57 rfl)
                  have e58 : a.tmps[58]? = some (.pointer (some (ad.add k))) := Inv2.some_slot (by rw [hz]; exact Nat.le_of_ble_eq_true rfl) ((F 5 (by kernel_rfl)).2 58 rfl)
                  have e59 : a.tmps[59]? = some (.string p1) := Inv2.some_slot (by rw [hz]; exact Nat.le_of_ble_eq_true rfl) ((F 6 (by kernel_rfl)).2 59 rfl)
                  obtain ⟨x60, e60, f7⟩ : ∃ x, a.tmps[60]? = some x ∧ Bs gw KA XA (.string p1) x w := ⟨_, Inv2.some_slot (by rw [hz]; exact Nat.le_of_ble_eq_true rfl) rfl, (F 7 (by kernel_rfl)).2 60 rfl⟩
                  have b8 := (F 8 (by kernel_rfl)).1
                  have e62 : a.tmps[62]? = some (.pointer (some ⟨gw, 2, none⟩)) := Inv2.some_slot (by rw [hz]; exact Nat.le_of_ble_eq_true rfl) ((F 9 (by kernel_rfl)).2 62 rfl)
                  have e63 : a.tmps[63]? = some (.slice XA SX.length xca) := Inv2.some_slot (by rw [hz]; exact Nat.le_of_ble_eq_true rfl) ((F 10 (by kernel_rfl)).2 63 rfl)
                  have e71 : a.tmps[71]? = some (.pointer (some ⟨gw, 1, none⟩)) := Inv2.some_slot (by rw [hz]; exact Nat.le_of_ble_eq_true rfl) ((F 18 (by kernel_rfl)).2 71 rfl)
                  clear F hF
                  obtain ⟨K2, kc2, hv⟩ := hJ.val b8
                  have e61 : a.tmps[61]? = some (.slice K2 (SK.length + 1) kc2) := Inv2.some_slot (by rw [hz]; exact Nat.le_of_ble_eq_true rfl) hv
                  clear hz
                  obtain ⟨⟨u0, hc0⟩, hz0⟩ := hJ.cell
                  obtain ⟨hR, hJ2⟩ := hJ.st rfl rfl rfl (by decide) (by decide) (by decide) (by decide) hv undef
                  clear hv
                  go_simp
                  exact hK undef _ trivial hR hJ2
                refine Inv4.from_cons _ _ _ _ rfl (fun q a w hq hD hJ hF F K hK => ?_) ?_
                · have hz : a.tmps.size = 88 := hF.size
                  have e7 : a.tmps[7]? = some (.pointer (some ⟨gw, 0, none⟩)) := Inv2.some_slot (by rw [hz]; exact Nat.le_of_ble_eq_true rfl) (hF.slot 7 (by kernel_rfl))
                  have e53 : a.tmps[53]? = some (.pointer (some ⟨gw, 1, none⟩)) := Inv2.some_slot (by rw [hz]; exact Nat.le_of_ble_eq_true rfl) ((F 0 (by kernel_rfl)).2 53 rfl)
                  have e54 : a.tmps[54]? = some (.slice KA SK.length kca) := Inv2.some_slot (by rw [hz]; exact Nat.le_of_ble_eq_true rfl) ((F 1 (by kernel_rfl)).2 54 rfl)
                  have e55 : a.tmps[55]? = some (.pointer (some ⟨g, 1, none⟩)) := Inv2.some_slot (by rw [hz]; exact Nat.le_of_ble_eq_true rfl) ((F 2 (by kernel_rfl)).2 55 rfl)
                  have e56 : a.tmps[56]? = some (.slice (some ad) n.keys.length h.kc) := Inv2.some_slot (by rw [hz]; exact Nat.le_of_ble_eq_true rfl) ((F 3 (by kernel_rfl)).2 56 rfl)
                  have e57 : a.tmps[57]? = some (.int .i64 (k : Int)) := Inv2.some_slot (by rw [hz]; exact Nat.le_of_ble_eq_true rfl) ((F 4 (by kernel_rfl)).2 57 rfl)
                  have e58 : a.tmps[58]? = some (.pointer (some (ad.add k))) := Inv2.some_slot (by rw [hz]; exact Nat.le_of_ble_eq_true rfl) ((F 5 (by kernel_rfl)).2 58 rfl)
                  have e59 : a.tmps[59]? = some (.string p1) := Inv2.some_slot (by rw [hz]; exact Nat.le_of_ble_eq_true rfl) ((F 6 (by kernel_rfl)).2 59 rfl)
                  obtain ⟨x60, e60, f7⟩ : ∃ x, a.tmps[60]? = some x ∧ Bs gw KA XA (.string p1) x w := ⟨_, Inv2.some_slot (by rw [hz]; exact Nat.le_of_ble_eq_true rfl) rfl, (F 7 (by kernel_rfl)).2 60 rfl⟩
                  have e62 : a.tmps[62]? = some (.pointer (some ⟨gw, 2, none⟩)) := Inv2.some_slot (by rw [hz]; exact Nat.le_of_ble_eq_true rfl) ((F 9 (by kernel_rfl)).2 62 rfl)
                  have e63 : a.tmps[63]? = some (.slice XA SX.length xca) := Inv2.some_slot (by rw [hz]; exact Nat.le_of_ble_eq_true rfl) ((F 10 (by kernel_rfl)).2 63 rfl)
                  have e64 : a.tmps[64]? = some (.pointer (some ⟨g, 2, none⟩)) := Inv2.some_slot (by rw [hz]; exact Nat.le_of_ble_eq_true rfl) ((F 11 (by kernel_rfl)).2 64 rfl)
                  have e65 : a.tmps[65]? = some (.slice (some bd) n.vals.length h.vc) := Inv2.some_slot (by rw [hz]; exact Nat.le_of_ble_eq_true rfl) ((F 12 (by kernel_rfl)).2 65 rfl)
                  have e66 : a.tmps[66]? = some (.int .i64 (k : Int)) := Inv2.some_slot (by rw [hz]; exact Nat.le_of_ble_eq_true rfl) ((F 13 (by kernel_rfl)).2 66 rfl)
                  have e67 : a.tmps[67]? = some (.pointer (some (bd.add k))) := Inv2.some_slot (by rw [hz]; exact Nat.le_of_ble_eq_true rfl) ((F 14 (by kernel_rfl)).2 67 rfl)
                  have e68 : a.tmps[68]? = some (.string p2) := Inv2.some_slot (by rw [hz]; exact Nat.le_of_ble_eq_true rfl) ((F 15 (by kernel_rfl)).2 68 rfl)
                  obtain ⟨x69, e69, f16⟩ : ∃ x, a.tmps[69]? = some x ∧ Bs gw XA KA (.string p2) x w := ⟨_, Inv2.some_slot (by rw [hz]; exact Nat.le_of_ble_eq_true rfl) rfl, (F 16 (by kernel_rfl)).2 69 rfl⟩
                  have e71 : a.tmps[71]? = some (.pointer (some ⟨gw, 1, none⟩)) := Inv2.some_slot (by rw [hz]; exact Nat.le_of_ble_eq_true rfl) ((F 18 (by kernel_rfl)).2 71 rfl)
                  clear F hF
                  clear hz
                  go_simp
                  exact hK (.pointer (some ⟨gw, 2, none⟩)) _ rfl ((rd_below (Below.refl _ _))) (hJ.quiet (Below.refl _ _) rfl rfl rfl rfl (by decide) (by decide))
                refine Inv4.from_cons _ _ _ _ rfl (fun q a w hq hD hJ hF F K hK => ?_) ?_
                · have hz : a.tmps.size = 88 := hF.size
                  have e53 : a.tmps[53]? = some (.pointer (some ⟨gw, 1, none⟩)) := Inv2.some_slot (by rw [hz]; exact Nat.le_of_ble_eq_true rfl) ((F 0 (by kernel_rfl)).2 53 rfl)
                  have e54 : a.tmps[54]? = some (.slice KA SK.length kca) := Inv2.some_slot (by rw [hz]; exact Nat.le_of_ble_eq_true rfl) ((F 1 (by kernel_rfl)).2 54 rfl)
                  have e55 : a.tmps[55]? = some (.pointer (some ⟨g, 1, none⟩)) := Inv2.some_slot (by rw [hz]; exact Nat.le_of_ble_eq_true rfl) ((F 2 (by kernel_rfl)).2 55 rfl)
                  have e56 : a.tmps[56]? = some (.slice (some ad) n.keys.length h.kc) := Inv2.some_slot (by rw [hz]; exact Nat.le_of_ble_eq_true rfl) ((F 3 (by kernel_rfl)).2 56 rfl)
                  have e57 : a.tmps[57]? = some (.int .i64 (k : Int)) := Inv2.some_slot (by rw [hz]; exact Nat.le_of_ble_eq_true rfl) ((F 4 (by kernel_rfl)).2 57 rfl)
                  have e58 : a.tmps[58]? = some (.pointer (some (ad.add k))) := Inv2.some_slot (by rw [hz]; exact Nat.le_of_ble_eq_true rfl) ((F 5 (by kernel_rfl)).2 58 rfl)
                  have e59 : a.tmps[59]? = some (.string p1) := Inv2.some_slot (by rw [hz]; exact Nat.le_of_ble_eq_true rfl) ((F 6 (by kernel_rfl)).2 59 rfl)
                  obtain ⟨x60, e60, f7⟩ : ∃ x, a.tmps[60]? = some x ∧ Bs gw KA XA (.string p1) x w := ⟨_, Inv2.some_slot (by rw [hz]; exact Nat.le_of_ble_eq_true rfl) rfl, (F 7 (by kernel_rfl)).2 60 rfl⟩
                  have e62 : a.tmps[62]? = some (.pointer (some ⟨gw, 2, none⟩)) := Inv2.some_slot (by rw [hz]; exact Nat.le_of_ble_eq_true rfl) ((F 9 (by kernel_rfl)).2 62 rfl)
                  have e63 : a.tmps[63]? = some (.slice XA SX.length xca) := Inv2.some_slot (by rw [hz]; exact Nat.le_of_ble_eq_true rfl) ((F 10 (by kernel_rfl)).2 63 rfl)
                  have e64 : a.tmps[64]? = some (.pointer (some ⟨g, 2, none⟩)) := Inv2.some_slot (by rw [hz]; exact Nat.le_of_ble_eq_true rfl) ((F 11 (by kernel_rfl)).2 64 rfl)
                  have e65 : a.tmps[65]? = some (.slice (some bd) n.vals.length h.vc) := Inv2.some_slot (by rw [hz]; exact Nat.le_of_ble_eq_true rfl) ((F 12 (by kernel_rfl)).2 65 rfl)
                  have e66 : a.tmps[66]? = some (.int .i64 (k : Int)) := Inv2.some_slot (by rw [hz]; exact Nat.le_of_ble_eq_true rfl) ((F 13 (by kernel_rfl)).2 66 rfl)
                  have e67 : a.tmps[67]? = some (.pointer (some (bd.add k))) := Inv2.some_slot (by rw [hz]; exact Nat.le_of_ble_eq_true rfl) ((F 14 (by kernel_rfl)).2 67 rfl)
                  have e68 : a.tmps[68]? = some (.string p2) := Inv2.some_slot (by rw [hz]; exact Nat.le_of_ble_eq_true rfl) ((F 15 (by kernel_rfl)).2 68 rfl)
                  obtain ⟨x69, e69, f16⟩ : ∃ x, a.tmps[69]? = some x ∧ Bs gw XA KA (.string p2) x w := ⟨_, Inv2.some_slot (by rw [hz]; exact Nat.le_of_ble_eq_true rfl) rfl, (F 16 (by kernel_rfl)).2 69 rfl⟩
                  have b17 := (F 17 (by kernel_rfl)).1
                  have e71 : a.tmps[71]? = some (.pointer (some ⟨gw, 1, none⟩)) := Inv2.some_slot (by rw [hz]; exact Nat.le_of_ble_eq_true rfl) ((F 18 (by kernel_rfl)).2 71 rfl)
                  have e72 : a.tmps[72]? = some (.pointer (some ⟨gw, 2, none⟩)) := Inv2.some_slot (by rw [hz]; exact Nat.le_of_ble_eq_true rfl) ((F 20 (by kernel_rfl)).2 72 rfl)
                  clear F hF
                  obtain ⟨K2, kc2, hv⟩ := hJ.swap.val b17
                  have e70 : a.tmps[70]? = some (.slice K2 (SX.length + 1) kc2) := Inv2.some_slot (by rw [hz]; exact Nat.le_of_ble_eq_true rfl) hv
                  clear hz
                  obtain ⟨⟨u0, hc0⟩, hz0⟩ := hJ.swap.cell
                  obtain ⟨hR, hJ2⟩ := hJ.swap.st rfl rfl rfl (by decide) (by decide) (by decide) (by decide) hv undef
                  clear hv
                  go_simp
                  exact hK undef _ trivial hR.swap hJ2.swap
                exact Inv4.from_end _ _ _ _ (by decide +kernel)
              · intro a w hJ hF F
                obtain ⟨f, hf⟩ : ∃ f : Nat → Value, ∀ i, a.tmps.getD i undef = f i := ⟨_, fun _ => rfl⟩
                obtain ⟨K2, kc2, X2, xc2, hw9⟩ := hJ.fin (by decide +kernel) (by decide +kernel) (by decide +kernel) (by decide +kernel)
                clear hJ
                have g0 : f 0 = (nv n h) := (hf 0).symm.trans (hF.slot 0 (by kernel_rfl))
                have g1 : f 1 = (.string key) := (hf 1).symm.trans (hF.slot 1 (by kernel_rfl))
                have g2 : f 2 = (.string value) := (hf 2).symm.trans (hF.slot 2 (by kernel_rfl))
                have g3 : f 3 = (.pointer (some ⟨g, 0, none⟩)) := (hf 3).symm.trans (hF.slot 3 (by kernel_rfl))
                have g4 : f 4 = (undef) := (hf 4).symm.trans (hF.slot 4 (by kernel_rfl))
                have g5 : f 5 = (undef) := (hf 5).symm.trans (hF.slot 5 (by kernel_rfl))
                have g6 : f 6 = (.pointer (some ⟨g + 1, 0, none⟩)) := (hf 6).symm.trans (hF.slot 6 (by kernel_rfl))
                have g7 : f 7 = (.pointer (some ⟨gw, 0, none⟩)) := (hf 7).symm.trans (hF.slot 7 (by kernel_rfl))
                have g8 : f 8 = (.bool true) := (hf 8).symm.trans (hF.slot 8 (by kernel_rfl))
                have g9 : f 9 = (.int .i64 (k : Int)) := (hf 9).symm.trans (hF.slot 9 (by kernel_rfl))
                have g10 : f 10 = (.pointer (some ⟨g, 0, none⟩)) := (hf 10).symm.trans (hF.slot 10 (by kernel_rfl))
                have g11 : f 11 = (.bool true) := (hf 11).symm.trans (hF.slot 11 (by kernel_rfl))
                have g12 : f 12 = (.bool false) := (hf 12).symm.trans (hF.slot 12 (by kernel_rfl))
                have g13 : f 13 = (undef) := (hf 13).symm.trans (hF.slot 13 (by kernel_rfl))
                have g14 : f 14 = (.agg #[.bool true, .slice none 0 0, .slice none 0 0, .slice none 0 0]) := (hf 14).symm.trans (hF.slot 14 (by kernel_rfl))
                have g73 : f 73 = (undef) := (hf 73).symm.trans (hF.slot 73 (by kernel_rfl))
                have g74 : f 74 = (undef) := (hf 74).symm.trans (hF.slot 74 (by kernel_rfl))
                have g75 : f 75 = (undef) := (hf 75).symm.trans (hF.slot 75 (by kernel_rfl))
                have g76 : f 76 = (undef) := (hf 76).symm.trans (hF.slot 76 (by kernel_rfl))
                have g77 : f 77 = (undef) := (hf 77).symm.trans (hF.slot 77 (by kernel_rfl))
                have g78 : f 78 = (undef) := (hf 78).symm.trans (hF.slot 78 (by kernel_rfl))
                have g79 : f 79 = (undef) := (hf 79).symm.trans (hF.slot 79 (by kernel_rfl))
                have g80 : f 80 = (undef) := (hf 80).symm.trans (hF.slot 80 (by kernel_rfl))
                have g81 : f 81 = (undef) := (hf 81).symm.trans (hF.slot 81 (by kernel_rfl))
                have g82 : f 82 = (undef) := (hf 82).symm.trans (hF.slot 82 (by kernel_rfl))
                have g83 : f 83 = (undef) := (hf 83).symm.trans (hF.slot 83 (by kernel_rfl))
                have g84 : f 84 = (undef) := (hf 84).symm.trans (hF.slot 84 (by kernel_rfl))
                have g85 : f 85 = (undef) := (hf 85).symm.trans (hF.slot 85 (by kernel_rfl))
                have g86 : f 86 = (undef) := (hf 86).symm.trans (hF.slot 86 (by kernel_rfl))
                have g87 : f 87 = (undef) := (hf 87).symm.trans (hF.slot 87 (by kernel_rfl))
                have g53 : f 53 = (.pointer (some ⟨gw, 1, none⟩)) := (hf 53).symm.trans (F 0 53 rfl)
                have g54 : f 54 = (.slice KA SK.length kca) := (hf 54).symm.trans (F 1 54 rfl)
                have g55 : f 55 = (.pointer (some ⟨g, 1, none⟩)) := (hf 55).symm.trans (F 2 55 rfl)
                have g56 : f 56 = (.slice (some ad) n.keys.length h.kc) := (hf 56).symm.trans (F 3 56 rfl)
                have g57 : f 57 = (.int .i64 (k : Int)) := (hf 57).symm.trans (F 4 57 rfl)
                have g58 : f 58 = (.pointer (some (ad.add k))) := (hf 58).symm.trans (F 5 58 rfl)
                have g59 : f 59 = (.string p1) := (hf 59).symm.trans (F 6 59 rfl)
                obtain ⟨x60, g60⟩ : ∃ x, f 60 = x := ⟨_, rfl⟩
                have f7 : Bs gw KA XA (.string p1) x60 w := by rw [← g60, ← hf 60]; exact F 7 60 rfl
                have g62 : f 62 = (.pointer (some ⟨gw, 2, none⟩)) := (hf 62).symm.trans (F 9 62 rfl)
                have g63 : f 63 = (.slice XA SX.length xca) := (hf 63).symm.trans (F 10 63 rfl)
                have g64 : f 64 = (.pointer (some ⟨g, 2, none⟩)) := (hf 64).symm.trans (F 11 64 rfl)
                have g65 : f 65 = (.slice (some bd) n.vals.length h.vc) := (hf 65).symm.trans (F 12 65 rfl)
                have g66 : f 66 = (.int .i64 (k : Int)) := (hf 66).symm.trans (F 13 66 rfl)
                have g67 : f 67 = (.pointer (some (bd.add k))) := (hf 67).symm.trans (F 14 67 rfl)
                have g68 : f 68 = (.string p2) := (hf 68).symm.trans (F 15 68 rfl)
                obtain ⟨x69, g69⟩ : ∃ x, f 69 = x := ⟨_, rfl⟩
                have f16 : Bs gw XA KA (.string p2) x69 w := by rw [← g69, ← hf 69]; exact F 16 69 rfl
                have g71 : f 71 = (.pointer (some ⟨gw, 1, none⟩)) := (hf 71).symm.trans (F 18 71 rfl)
                have g72 : f 72 = (.pointer (some ⟨gw, 2, none⟩)) := (hf 72).symm.trans (F 20 72 rfl)
                have ha := Frames.frame (show a.tmps.size = 88 from hF.size) hF.defers hf (l := [f 0, f 1, f 2, f 3, f 4, f 5, f 6, f 7, f 8, f 9, f 10, f 11, f 12, f 13, f 14, f 15, f 16, f 17, f 18, f 19, f 20, f 21, f 22, f 23, f 24, f 25, f 26, f 27, f 28, f 29, f 30, f 31, f 32, f 33, f 34, f 35, f 36, f 37, f 38, f 39, f 40, f 41, f 42, f 43, f 44, f 45, f 46, f 47, f 48, f 49, f 50, f 51, f 52, f 53, f 54, f 55, f 56, f 57, f 58, f 59, f 60, f 61, f 62, f 63, f 64, f 65, f 66, f 67, f 68, f 69, f 70, f 71, f 72, f 73, f 74, f 75, f 76, f 77, f 78, f 79, f 80, f 81, f 82, f 83, f 84, f 85, f 86, f 87]) rfl
                simp only [g0, g1, g2, g3, g4, g5, g6, g7, g8, g9, g10, g11, g12, g13, g14, g73, g74, g75, g76, g77, g78, g79, g80, g81, g82, g83, g84, g85, g86, g87, g53, g54, g55, g56, g57, g58, g59, g60, g62, g63, g64, g65, g66, g67, g68, g69, g71, g72] at ha
                clear F hF hf g0 g1 g2 g3 g4 g5 g6 g7 g8 g9 g10 g11 g12 g13 g14 g73 g74 g75 g76 g77 g78 g79 g80 g81 g82 g83 g84 g85 g86 g87 g53 g54 g55 g56 g57 g58 g59 g60 g62 g63 g64 g65 g66 g67 g68 g69 g71 g72
                subst ha
                have hout := out_fin HSK.out HSX.out hw9
                clear HSK HSX HSL hw9
                go_wp2_with fail
                go_roundw
                case rel => exact ⟨k + 1, true, acc ++ [(key, value)] ++ [(p1, p2)], by omega, by rw [HTK.out]; exact acc_gt HACC.out HLS.out HE.out, rfl, by go_num, hout⟩
                case measure => simp [intOf]; omega
    · obtain rfl : k = n.keys.length := by omega
      have HTA : l.take n.keys.length = l := List.take_of_length_le (by have := HKL.out; omega)
      have hac2 := HACC.out
      rw [HTA] at hac2
      clear HACC HTA
      have HACC := Lib.hid hac2
      clear hac2
      obtain ⟨c0, c1, c2, c3, _⟩ := HBX.out wr hout.b
      cases dn with
      | true =>
        clear c0 c2 c3
        obtain ⟨KZ, kcz, XZ, xcz, hw⟩ := hout
        obtain ⟨q0, q1, q2, q3, _⟩ := hw.at'.f4
        have hat := HAT.out _ hw.b
        obtain ⟨z0, z1, z2, z3, y0, y1, y2, y3⟩ := hat.f4
        have hlt1 : g + 1 < gw + 1 := by have := HGW.out; omega
        have HA := Lib.hid (set4 hat (.bool true) (.slice KZ (acc).length kcz) (.slice XZ (acc).length xcz) (.slice none 0 0))
        have HV := Lib.hid ((out_nvo hw).st4 (g := g + 1) (a := .bool true) (b := .slice KZ (acc).length kcz) (c := .slice XZ (acc).length xcz) (d := .slice none 0 0) hlt1).nv
        have HBB := Lib.hid (below4 (HB.out _ hw.b) (show g ≤ g + 1 by omega) (.bool true) (.slice KZ (acc).length kcz) (.slice XZ (acc).length xcz) (.slice none 0 0))
        have HAE := Lib.hid (show acc = ins key value l by exact acc_end' HACC.out)
        clear hw hat hlt1
        skip
        go_wp2_with fail
        refine bodyPost_ret (results_cell_row rfl _ _ (g + 1) 25 _ (0, 0) _ rfl HA.out Try.underlying25 rfl (by kernel_rfl)) rfl ?_
        exact ⟨_, rfl, lv_of HV.out (by rw [HAE.out]), by rw [HG.out]; exact HBB.out⟩
      | false =>
        go_wp2_with fail
        clear c0 c1 c2 c3
        have HLE := Lib.hid (show acc.length ≤ 50000 by have h1 := HACC.out.len; have h2 := HLL.out; omega)
        obtain ⟨KA, kca, XA, xca, SK, SX, hw8, hSK, hSX⟩ := hout.gen
        have HSK := Lib.hid hSK
        have HSX := Lib.hid hSX
        have HSL := Lib.hid (show SK.length ≤ 100000 ∧ SX.length ≤ 100000 by rw [hSK, hSX]; simp only [strs, ks, vs, List.length_map]; have := HLE.out; omega)
        clear hSK hSX hout
        have hJ0 := fun a0 : Act => Duo.start (a1 := 4) (s1 := 11) (a2 := 9) (s2 := 13) (d1 := 79) (d2 := 84) (u := .string key) (v := .string value) (hw8.below (Below.refl _ _).drew) a0
        clear hw8
        refine wp_region_any (by kernel_rfl) ?_
        change wpAny _ _ _ _ _ _ _ (World.drew _)
        refine Inv4.inv_any (fun (i : Nat) (v : Value) (w : World) => match i with | 0 => v = .pointer (some ⟨gw, 1, none⟩) | 1 => v = .slice KA SK.length kca | 2 => v = .string key | 3 => Bs gw KA XA (.string key) v w | 5 => v = .pointer (some ⟨gw, 2, none⟩) | 6 => v = .slice XA SX.length xca | 7 => v = .string value | 8 => Bs gw XA KA (.string value) v w | 10 => v = .pointer (some ⟨gw, 1, none⟩) | 12 => v = .pointer (some ⟨gw, 2, none⟩) | _ => True) (Rd gw KA XA) (fun q a w => Duo gw W1 4 11 9 13 79 84 1 2 KA kca SK (.string key) XA xca SX (.string value) (World.drew wr).heap.size q a w) _ ?_ 88 rfl rfl rfl (by kernel_rfl) (hJ0 _) ?_ ?_
        · intro j v w w' h hb
          match j, h with
          | 0, h => exact h
          | 1, h => exact h
          | 2, h => exact h
          | 3, h => exact Bs.last h hb
          | 5, h => exact h
          | 6, h => exact h
          | 7, h => exact h
          | 8, h => exact Bs.last h hb.swap
          | 10, h => exact h
          | 12, h => exact h
          | 4, _ => exact trivial
          | 9, _ => exact trivial
          | 11, _ => exact trivial
          | 13, _ => exact trivial
          | (_ + 14), _ => exact trivial
        · skip
          refine Inv4.from_cons _ _ _ _ rfl (fun q a w hq hD hJ hF F K hK => ?_) ?_
          · have hz : a.tmps.size = 88 := hF.size
            have e7 : a.tmps[7]? = some (.pointer (some ⟨gw, 0, none⟩)) := Inv2.some_slot (by rw [hz]; exact Nat.le_of_ble_eq_true rfl) (hF.slot 7 (by kernel_rfl))
            clear F hF
            clear hz
            go_simp
            exact hK (.pointer (some ⟨gw, 1, none⟩)) _ rfl ((rd_below (Below.refl _ _))) (hJ.quiet (Below.refl _ _) rfl rfl rfl rfl (by decide) (by decide))
          refine Inv4.from_cons _ _ _ _ rfl (fun q a w hq hD hJ hF F K hK => ?_) ?_
          · have hz : a.tmps.size = 88 := hF.size
            have e75 : a.tmps[75]? = some (.pointer (some ⟨gw, 1, none⟩)) := Inv2.some_slot (by rw [hz]; exact Nat.le_of_ble_eq_true rfl) ((F 0 (by kernel_rfl)).2 75 rfl)
            clear F hF
            clear hz
            have hld := hJ.ld (hD.no hq (by kernel_rfl))
            go_simp
            exact hK (.slice KA SK.length kca) _ rfl (rd_below (Below.refl _ _)) (hJ.quiet (Below.refl _ _) rfl rfl rfl rfl (by decide) (by decide))
          refine Inv4.from_cons _ _ _ _ rfl (fun q a w hq hD hJ hF F K hK => ?_) ?_
          · have hz : a.tmps.size = 88 := hF.size
            have e1 : a.tmps[1]? = some (.string key) := Inv2.some_slot (by rw [hz]; exact Nat.le_of_ble_eq_true rfl) (hF.slot 1 (by kernel_rfl))
            clear F hF
            clear hz
            go_simp
            exact hK (.string key) _ rfl ((rd_below (Below.refl _ _))) (hJ.quiet (Below.refl _ _) rfl rfl rfl rfl (by decide) (by decide))
          refine Inv4.from_cons _ _ _ _ rfl (fun q a w hq hD hJ hF F K hK => ?_) ?_
          · have hz : a.tmps.size = 88 := hF.size
            have e77 : a.tmps[77]? = some (.string key) := Inv2.some_slot (by rw [hz]; exact Nat.le_of_ble_eq_true rfl) ((F 2 (by kernel_rfl)).2 77 rfl)
            clear F hF
            clear hz
            have hnew := hJ.new (.string key)
            go_simp
            exact hK _ _ hnew (rd_below (al _ _)) (hJ.quiet (al _ _) rfl rfl rfl rfl (by decide) (by decide))
          refine Inv4.from_cons _ _ _ _ rfl (fun q a w hq hD hJ hF F K hK => ?_) ?_
          · have hz : a.tmps.size = 88 := hF.size
            have e76 : a.tmps[76]? = some (.slice KA SK.length kca) := Inv2.some_slot (by rw [hz]; exact Nat.le_of_ble_eq_true rfl) ((F 1 (by kernel_rfl)).2 76 rfl)
            obtain ⟨x78, e78, f3⟩ : ∃ x, a.tmps[78]? = some x ∧ Bs gw KA XA (.string key) x w := ⟨_, Inv2.some_slot (by rw [hz]; exact Nat.le_of_ble_eq_true rfl) rfl, (F 3 (by kernel_rfl)).2 78 rfl⟩
            clear F hF
            have hsz : 79 < a.tmps.size := by rw [hz]; exact Nat.le_of_ble_eq_true rfl
            clear hz
            obtain ⟨g8, K2, kc2, w', rfl, hrun, hR, hJ2⟩ := hJ.app hq (hD.no hq (by kernel_rfl)) hsz (by decide) rfl rfl rfl f3 rfl SK.length rfl HSL.out.1
            refine NodeEnt.step_append_d (d := 79) rfl rfl (.tmp 76) (.tmp 78) 22 22 rfl (vs := .slice KA SK.length kca) (vx := .slice (some ⟨g8, 0, none⟩) 1 1) (by simp [Act.eval, e76]) (by simp [Act.eval, e78]) hrun ?_
            exact hK _ _ trivial hR hJ2
          refine Inv4.from_cons _ _ _ _ rfl (fun q a w hq hD hJ hF F K hK => ?_) ?_
          · have hz : a.tmps.size = 88 := hF.size
            have e7 : a.tmps[7]? = some (.pointer (some ⟨gw, 0, none⟩)) := Inv2.some_slot (by rw [hz]; exact Nat.le_of_ble_eq_true rfl) (hF.slot 7 (by kernel_rfl))
            clear F hF
            clear hz
            go_simp
            exact hK (.pointer (some ⟨gw, 2, none⟩)) _ rfl ((rd_below (Below.refl _ _))) (hJ.quiet (Below.refl _ _) rfl rfl rfl rfl (by decide) (by decide))
          refine Inv4.from_cons _ _ _ _ rfl (fun q a w hq hD hJ hF F K hK => ?_) ?_
          · have hz : a.tmps.size = 88 := hF.size
            have e80 : a.tmps[80]? = some (.pointer (some ⟨gw, 2, none⟩)) := Inv2.some_slot (by rw [hz]; exact Nat.le_of_ble_eq_true rfl) ((F 5 (by kernel_rfl)).2 80 rfl)
            clear F hF
            clear hz
            have hld := hJ.swap.ld (hD.no hq (by kernel_rfl))
            go_simp
            exact hK (.slice XA SX.length xca) _ rfl (rd_below (Below.refl _ _)) (hJ.quiet (Below.refl _ _) rfl rfl rfl rfl (by decide) (by decide))
          refine Inv4.from_cons _ _ _ _ rfl (fun q a w hq hD hJ hF F K hK => ?_) ?_
          · have hz : a.tmps.size = 88 := hF.size
            have e2 : a.tmps[2]? = some (.string value) := Inv2.some_slot (by rw [hz]; exact Nat.le_of_ble_eq_true rfl) (hF.slot 2 (by kernel_rfl))
            clear F hF
            clear hz
            go_simp
            exact hK (.string value) _ rfl ((rd_below (Below.refl _ _))) (hJ.quiet (Below.refl _ _) rfl rfl rfl rfl (by decide) (by decide))
          refine Inv4.from_cons _ _ _ _ rfl (fun q a w hq hD hJ hF F K hK => ?_) ?_
          · have hz : a.tmps.size = 88 := hF.size
            have e82 : a.tmps[82]? = some (.string value) := Inv2.some_slot (by rw [hz]; exact Nat.le_of_ble_eq_true rfl) ((F 7 (by kernel_rfl)).2 82 rfl)
            clear F hF
            clear hz
            have hnew := hJ.swap.new (.string value)
            go_simp
            exact hK _ _ hnew (rd_below (al _ _)) (hJ.quiet (al _ _) rfl rfl rfl rfl (by decide) (by decide))
          refine Inv4.from_cons _ _ _ _ rfl (fun q a w hq hD hJ hF F K hK => ?_) ?_
          · have hz : a.tmps.size = 88 := hF.size
            have e81 : a.tmps[81]? = some (.slice XA SX.length xca) := Inv2.some_slot (by rw [hz]; exact Nat.le_of_ble_eq_true rfl) ((F 6 (by kernel_rfl)).2 81 rfl)
            obtain ⟨x83, e83, f8⟩ : ∃ x, a.tmps[83]? = some x ∧ Bs gw XA KA (.string value) x w := ⟨_, Inv2.some_slot (by rw [hz]; exact Nat.le_of_ble_eq_true rfl) rfl, (F 8 (by kernel_rfl)).2 83 rfl⟩
            clear F hF
            have hsz : 84 < a.tmps.size := by rw [hz]; exact Nat.le_of_ble_eq_true rfl
            clear hz
            obtain ⟨g8, K2, kc2, w', rfl, hrun, hR, hJ2⟩ := hJ.swap.app hq (hD.no hq (by kernel_rfl)) hsz (by decide) rfl rfl rfl f8 rfl SX.length rfl HSL.out.2
            refine NodeEnt.step_append_d (d := 84) rfl rfl (.tmp 81) (.tmp 83) 22 22 rfl (vs := .slice XA SX.length xca) (vx := .slice (some ⟨g8, 0, none⟩) 1 1) (by simp [Act.eval, e81]) (by simp [Act.eval, e83]) hrun ?_
            exact hK _ _ trivial hR.swap hJ2.swap
          refine Inv4.from_cons _ _ _ _ rfl (fun q a w hq hD hJ hF F K hK => ?_) ?_
          · have hz : a.tmps.size = 88 := hF.size
            have e7 : a.tmps[7]? = some (.pointer (some ⟨gw, 0, none⟩)) := Inv2.some_slot (by rw [hz]; exact Nat.le_of_ble_eq_true rfl) (hF.slot 7 (by kernel_rfl))
            have e75 : a.tmps[75]? = some (.pointer (some ⟨gw, 1, none⟩)) := Inv2.some_slot (by rw [hz]; exact Nat.le_of_ble_eq_true rfl) ((F 0 (by kernel_rfl)).2 75 rfl)
            have e76 : a.tmps[76]? = some (.slice KA SK.length kca) := Inv2.some_slot (by rw [hz]; exact Nat.le_of_ble_eq_true rfl) ((F 1 (by kernel_rfl)).2 76 rfl)
            have e77 : a.tmps[77]? = some (.string key) := Inv2.some_slot (by rw [hz]; exact Nat.le_of_ble_eq_true rfl) ((F 2 (by kernel_rfl)).2 77 rfl)
            obtain ⟨x78, e78, f3⟩ : ∃ x, a.tmps[78]? = some x ∧ Bs gw KA XA (.string key) x w := ⟨_, Inv2.some_slot (by rw [hz]; exact Nat.le_of_ble_eq_true rfl) rfl, (F 3 (by kernel_rfl)).2 78 rfl⟩
            have e80 : a.tmps[80]? = some (.pointer (some ⟨gw, 2, none⟩)) := Inv2.some_slot (by rw [hz]; exact Nat.le_of_ble_eq_true rfl) ((F 5 (by kernel_rfl)).2 80 rfl)
            have e81 : a.tmps[81]? = some (.slice XA SX.length xca) := Inv2.some_slot (by rw [hz]; exact Nat.le_of_ble_eq_true rfl) ((F 6 (by kernel_rfl)).2 81 rfl)
            clear F hF
            clear hz
            go_simp
            exact hK (.pointer (some ⟨gw, 1, none⟩)) _ rfl ((rd_below (Below.refl _ _))) (hJ.quiet (Below.refl _ _) rfl rfl rfl rfl (by decide) (by decide))
          refine Inv4.from_cons _ _ _ _ rfl (fun q a w hq hD hJ hF F K hK => ?_) ?_
          · have hz : a.tmps.size = 88 := hF.size
            have e75 : a.tmps[75]? = some (.pointer (some ⟨gw, 1, none⟩)) := Inv2.some_slot (by rw [hz]; exact Nat.le_of_ble_eq_true rfl) ((F 0 (by kernel_rfl)).2 75 rfl)
            have e76 : a.tmps[76]? = some (.slice KA SK.length kca) := Inv2.some_slot (by rw [hz]; exact Nat.le_of_ble_eq_true rfl) ((F 1 (by kernel_rfl)).2 76 rfl)
            have e77 : a.tmps[77]? = some (.string key) := Inv2.some_slot (by rw [hz]; exact Nat.le_of_ble_eq_true rfl) ((F 2 (by kernel_rfl)).2 77 rfl)
            obtain ⟨x78, e78, f3⟩ : ∃ x, a.tmps[78]? = some x ∧ Bs gw KA XA (.string key) x w := ⟨_, Inv2.some_slot (by rw [hz]; exact Nat.le_of_ble_eq_true rfl) rfl, (F 3 (by kernel_rfl)).2 78 rfl⟩
            have b4 := (F 4 (by kernel_rfl)).1
            have e80 : a.tmps[80]? = some (.pointer (some ⟨gw, 2, none⟩)) := Inv2.some_slot (by rw [hz]; exact Nat.le_of_ble_eq_true rfl) ((F 5 (by kernel_rfl)).2 80 rfl)
            have e81 : a.tmps[81]? = some (.slice XA SX.length xca) := Inv2.some_slot (by rw [hz]; exact Nat.le_of_ble_eq_true rfl) ((F 6 (by kernel_rfl)).2 81 rfl)
            have e85 : a.tmps[85]? = some (.pointer (some ⟨gw, 1, none⟩)) := Inv2.some_slot (by rw [hz]; exact Nat.le_of_ble_eq_true rfl) ((F 10 (by kernel_rfl)).2 85 rfl)
            clear F hF
            obtain ⟨K2, kc2, hv⟩ := hJ.val b4
            have e79 : a.tmps[79]? = some (.slice K2 (SK.length + 1) kc2) := Inv2.some_slot (by rw [hz]; exact Nat.le_of_ble_eq_true rfl) hv
            clear hz
            obtain ⟨⟨u0, hc0⟩, hz0⟩ := hJ.cell
            obtain ⟨hR, hJ2⟩ := hJ.st rfl rfl rfl (by decide) (by decide) (by decide) (by decide) hv undef
            clear hv
            go_simp
            exact hK undef _ trivial hR hJ2
          refine Inv4.from_cons _ _ _ _ rfl (fun q a w hq hD hJ hF F K hK => ?_) ?_
          · have hz : a.tmps.size = 88 := hF.size
            have e7 : a.tmps[7]? = some (.pointer (some ⟨gw, 0, none⟩)) := Inv2.some_slot (by rw [hz]; exact Nat.le_of_ble_eq_true rfl) (hF.slot 7 (by kernel_rfl))
            have e75 : a.tmps[75]? = some (.pointer (some ⟨gw, 1, none⟩)) := Inv2.some_slot (by rw [hz]; exact Nat.le_of_ble_eq_true rfl) ((F 0 (by kernel_rfl)).2 75 rfl)
            have e76 : a.tmps[76]? = some (.slice KA SK.length kca) := Inv2.some_slot (by rw [hz]; exact Nat.le_of_ble_eq_true rfl) ((F 1 (by kernel_rfl)).2 76 rfl)
            have e77 : a.tmps[77]? = some (.string key) := Inv2.some_slot (by rw [hz]; exact Nat.le_of_ble_eq_true rfl) ((F 2 (by kernel_rfl)).2 77 rfl)
            obtain ⟨x78, e78, f3⟩ : ∃ x, a.tmps[78]? = some x ∧ Bs gw KA XA (.string key) x w := ⟨_, Inv2.some_slot (by rw [hz]; exact Nat.le_of_ble_eq_true rfl) rfl, (F 3 (by kernel_rfl)).2 78 rfl⟩
            have e80 : a.tmps[80]? = some (.pointer (some ⟨gw, 2, none⟩)) := Inv2.some_slot (by rw [hz]; exact Nat.le_of_ble_eq_true rfl) ((F 5 (by kernel_rfl)).2 80 rfl)
            have e81 : a.tmps[81]? = some (.slice XA SX.length xca) := Inv2.some_slot (by rw [hz]; exact Nat.le_of_ble_eq_true rfl) ((F 6 (by kernel_rfl)).2 81 rfl)
            have e82 : a.tmps[82]? = some (.string value) := Inv2.some_slot (by rw [hz]; exact Nat.le_of_ble_eq_true rfl) ((F 7 (by kernel_rfl)).2 82 rfl)
            obtain ⟨x83, e83, f8⟩ : ∃ x, a.tmps[83]? = some x ∧ Bs gw XA KA (.string value) x w := ⟨_, Inv2.some_slot (by rw [hz]; exact Nat.le_of_ble_eq_true rfl) rfl, (F 8 (by kernel_rfl)).2 83 rfl⟩
            have e85 : a.tmps[85]? = some (.pointer (some ⟨gw, 1, none⟩)) := Inv2.some_slot (by rw [hz]; exact Nat.le_of_ble_eq_true rfl) ((F 10 (by kernel_rfl)).2 85 rfl)
            clear F hF
            clear hz
            go_simp
            exact hK (.pointer (some ⟨gw, 2, none⟩)) _ rfl ((rd_below (Below.refl _ _))) (hJ.quiet (Below.refl _ _) rfl rfl rfl rfl (by decide) (by decide))
          refine Inv4.from_cons _ _ _ _ rfl (fun q a w hq hD hJ hF F K hK => ?_) ?_
          · have hz : a.tmps.size = 88 := hF.size
            have e75 : a.tmps[75]? = some (.pointer (some ⟨gw, 1, none⟩)) := Inv2.some_slot (by rw [hz]; exact Nat.le_of_ble_eq_true rfl) ((F 0 (by kernel_rfl)).2 75 rfl)
            have e76 : a.tmps[76]? = some (.slice KA SK.length kca) := Inv2.some_slot (by rw [hz]; exact Nat.le_of_ble_eq_true rfl) ((F 1 (by kernel_rfl)).2 76 rfl)
            have e77 : a.tmps[77]? = some (.string key) := Inv2.some_slot (by rw [hz]; exact Nat.le_of_ble_eq_true rfl) ((F 2 (by kernel_rfl)).2 77 rfl)
            obtain ⟨x78, e78, f3⟩ : ∃ x, a.tmps[78]? = some x ∧ Bs gw KA XA (.string key) x w := ⟨_, Inv2.some_slot (by rw [hz]; exact Nat.le_of_ble_eq_true rfl) rfl, (F 3 (by kernel_rfl)).2 78 rfl⟩
            have e80 : a.tmps[80]? = some (.pointer (some ⟨gw, 2, none⟩)) := Inv2.some_slot (by rw [hz]; exact Nat.le_of_ble_eq_true rfl) ((F 5 (by kernel_rfl)).2 80 rfl)
            have e81 : a.tmps[81]? = some (.slice XA SX.length xca) := Inv2.some_slot (by rw [hz]; exact Nat.le_of_ble_eq_true rfl) ((F 6 (by kernel_rfl)).2 81 rfl)
            have e82 : a.tmps[82]? = some (.string value) := Inv2.some_slot (by rw [hz]; exact Nat.le_of_ble_eq_true rfl) ((F 7 (by kernel_rfl)).2 82 rfl)
            obtain ⟨x83, e83, f8⟩ : ∃ x, a.tmps[83]? = some x ∧ Bs gw XA KA (.string value) x w := ⟨_, Inv2.some_slot (by rw [hz]; exact Nat.le_of_ble_eq_true rfl) rfl, (F 8 (by kernel_rfl)).2 83 rfl⟩
            have b9 := (F 9 (by kernel_rfl)).1
            have e85 : a.tmps[85]? = some (.pointer (some ⟨gw, 1, none⟩)) := Inv2.some_slot (by rw [hz]; exact Nat.le_of_ble_eq_true rfl) ((F 10 (by kernel_rfl)).2 85 rfl)
            have e86 : a.tmps[86]? = some (.pointer (some ⟨gw, 2, none⟩)) := Inv2.some_slot (by rw [hz]; exact Nat.le_of_ble_eq_true rfl) ((F 12 (by kernel_rfl)).2 86 rfl)
            clear F hF
            obtain ⟨K2, kc2, hv⟩ := hJ.swap.val b9
            have e84 : a.tmps[84]? = some (.slice K2 (SX.length + 1) kc2) := Inv2.some_slot (by rw [hz]; exact Nat.le_of_ble_eq_true rfl) hv
            clear hz
            obtain ⟨⟨u0, hc0⟩, hz0⟩ := hJ.swap.cell
            obtain ⟨hR, hJ2⟩ := hJ.swap.st rfl rfl rfl (by decide) (by decide) (by decide) (by decide) hv undef
            clear hv
            go_simp
            exact hK undef _ trivial hR.swap hJ2.swap
          exact Inv4.from_end _ _ _ _ (by decide +kernel)
        · intro a w hJ hF F
          obtain ⟨f, hf⟩ : ∃ f : Nat → Value, ∀ i, a.tmps.getD i undef = f i := ⟨_, fun _ => rfl⟩
          obtain ⟨K2, kc2, X2, xc2, hw9⟩ := hJ.fin (by decide +kernel) (by decide +kernel) (by decide +kernel) (by decide +kernel)
          clear hJ
          have g1 : f 1 = (.string key) := (hf 1).symm.trans (hF.slot 1 (by kernel_rfl))
          have g2 : f 2 = (.string value) := (hf 2).symm.trans (hF.slot 2 (by kernel_rfl))
          have g6 : f 6 = (.pointer (some ⟨g + 1, 0, none⟩)) := (hf 6).symm.trans (hF.slot 6 (by kernel_rfl))
          have g7 : f 7 = (.pointer (some ⟨gw, 0, none⟩)) := (hf 7).symm.trans (hF.slot 7 (by kernel_rfl))
          have g75 : f 75 = (.pointer (some ⟨gw, 1, none⟩)) := (hf 75).symm.trans (F 0 75 rfl)
          have g76 : f 76 = (.slice KA SK.length kca) := (hf 76).symm.trans (F 1 76 rfl)
          have g77 : f 77 = (.string key) := (hf 77).symm.trans (F 2 77 rfl)
          obtain ⟨x78, g78⟩ : ∃ x, f 78 = x := ⟨_, rfl⟩
          have f3 : Bs gw KA XA (.string key) x78 w := by rw [← g78, ← hf 78]; exact F 3 78 rfl
          have g80 : f 80 = (.pointer (some ⟨gw, 2, none⟩)) := (hf 80).symm.trans (F 5 80 rfl)
          have g81 : f 81 = (.slice XA SX.length xca) := (hf 81).symm.trans (F 6 81 rfl)
          have g82 : f 82 = (.string value) := (hf 82).symm.trans (F 7 82 rfl)
          obtain ⟨x83, g83⟩ : ∃ x, f 83 = x := ⟨_, rfl⟩
          have f8 : Bs gw XA KA (.string value) x83 w := by rw [← g83, ← hf 83]; exact F 8 83 rfl
          have g85 : f 85 = (.pointer (some ⟨gw, 1, none⟩)) := (hf 85).symm.trans (F 10 85 rfl)
          have g86 : f 86 = (.pointer (some ⟨gw, 2, none⟩)) := (hf 86).symm.trans (F 12 86 rfl)
          have ha := Frames.frame (show a.tmps.size = 88 from hF.size) hF.defers hf (l := [f 0, f 1, f 2, f 3, f 4, f 5, f 6, f 7, f 8, f 9, f 10, f 11, f 12, f 13, f 14, f 15, f 16, f 17, f 18, f 19, f 20, f 21, f 22, f 23, f 24, f 25, f 26, f 27, f 28, f 29, f 30, f 31, f 32, f 33, f 34, f 35, f 36, f 37, f 38, f 39, f 40, f 41, f 42, f 43, f 44, f 45, f 46, f 47, f 48, f 49, f 50, f 51, f 52, f 53, f 54, f 55, f 56, f 57, f 58, f 59, f 60, f 61, f 62, f 63, f 64, f 65, f 66, f 67, f 68, f 69, f 70, f 71, f 72, f 73, f 74, f 75, f 76, f 77, f 78, f 79, f 80, f 81, f 82, f 83, f 84, f 85, f 86, f 87]) rfl
          simp only [g1, g2, g6, g7, g75, g76, g77, g78, g80, g81, g82, g83, g85, g86] at ha
          clear F hF hf g1 g2 g6 g7 g75 g76 g77 g78 g80 g81 g82 g83 g85 g86
          subst ha
          have hout := out_fin HSK.out HSX.out hw9
          clear HSK HSX HSL hw9
          obtain ⟨KZ, kcz, XZ, xcz, hw⟩ := hout
          obtain ⟨q0, q1, q2, q3, _⟩ := hw.at'.f4
          have hat := HAT.out _ hw.b
          obtain ⟨z0, z1, z2, z3, y0, y1, y2, y3⟩ := hat.f4
          have hlt1 : g + 1 < gw + 1 := by have := HGW.out; omega
          have HA := Lib.hid (set4 hat (.bool true) (.slice KZ (acc ++ [(key, value)]).length kcz) (.slice XZ (acc ++ [(key, value)]).length xcz) (.slice none 0 0))
          have HV := Lib.hid ((out_nvo hw).st4 (g := g + 1) (a := .bool true) (b := .slice KZ (acc ++ [(key, value)]).length kcz) (c := .slice XZ (acc ++ [(key, value)]).length xcz) (d := .slice none 0 0) hlt1).nv
          have HBB := Lib.hid (below4 (HB.out _ hw.b) (show g ≤ g + 1 by omega) (.bool true) (.slice KZ (acc ++ [(key, value)]).length kcz) (.slice XZ (acc ++ [(key, value)]).length xcz) (.slice none 0 0))
          have HAE := Lib.hid (show acc ++ [(key, value)] = ins key value l by rw [acc_end HACC.out])
          clear hw hat hlt1
          generalize hac : (acc ++ [(key, value)]) = acz at *
          go_wp2_with fail
          refine bodyPost_ret (results_cell_row rfl _ _ (g + 1) 25 _ (0, 0) _ rfl HA.out Try.underlying25 rfl (by kernel_rfl)) rfl ?_
          exact ⟨_, rfl, lv_of HV.out (by rw [HAE.out]), by rw [HG.out]; exact HBB.out⟩
end Go.Proofs.Ytpcpfcllgadghaa.NodeRefPut
