/- The contract of the document's Drop of a leaf. -/
import Derived.Test.YtpcpfcllgadghaaNodeIns
import Derived.Test.YtpcpfcllgadghaaFrames
namespace Go.Proofs.Ytpcpfcllgadghaa.NodeRefDrop
open Go.RowKit Base NodePlain NodeRead NodeSlice NodeCheck NodeBox NodeFind NodeLeaf NodeStore NodeWant NodeDuo NodeIns

set_option maxRecDepth 100000 in
set_option maxHeartbeats 25600000 in
theorem rdrop_lf (W : World) (l : Ps) (n : Nd) (h : Hd) (key : ByteArray) (hn : n = lfn l) {c : Nat} (hf : Lf c l) (hc : c ≤ 1000) (hl : Lay W n h) :
    Calls Try.prog 29 #[nv n h, .string key] W fun e w' => ∃ v, e = .returned v ∧ Lv (del key l) v w' ∧ Below W.heap.size W w' := by
  have hs : Small n := by rw [hn]; exact hf.small hc
  have hleaf : n.leaf = true := by rw [hn]; rfl
  have hkl : n.keys.length = l.length := by rw [hn]; simp [lfn, ks]
  have hvl : n.vals.length = l.length := by rw [hn]; simp [lfn, vs]
  have hke : ∀ (k : Nat) (_ : k < n.keys.length) (_ : k < l.length), n.keys[k] = (l[k]).1 := by intro k q q2; subst hn; simp [lfn, ks]
  have hve : ∀ (k : Nat) (_ : k < n.vals.length) (_ : k < l.length), n.vals[k] = (l[k]).2 := by intro k q q2; subst hn; simp [lfn, vs]
  have b1 := box_below W n h
  have hbx := bx_new W n h
  have b2 := al (box W n h) (.cells #[.bool false, .slice none 0 0, .slice none 0 0, .slice none 0 0] 25)
  have hat := at_new (box W n h) #[.bool false, .slice none 0 0, .slice none 0 0, .slice none 0 0] 25
  have s1 : (box W n h).heap.size = W.heap.size + 1 := by simp
  rw [s1] at hat
  have hbx2 := hbx.below b2
  have hl2 := (hl.below b1).below b2
  have hB2 := Below.step b1 b2
  have hsz : ((box W n h).alloc (.cells #[.bool false, .slice none 0 0, .slice none 0 0, .slice none 0 0] 25)).heap.size = W.heap.size + 1 + 1 := by simp
  obtain ⟨W1, hW1⟩ : ∃ v, v = (box W n h).alloc (.cells #[.bool false, .slice none 0 0, .slice none 0 0, .slice none 0 0] 25) := ⟨_, rfl⟩
  rw [← hW1] at hat hbx2 hl2 hB2 hsz
  have hout0 := out_new W1
  obtain ⟨v2, hv2⟩ : ∃ v, v = W1.alloc (.cells #[.bool true, .slice none 0 0, .slice none 0 0, .slice none 0 0] 25) := ⟨_, rfl⟩
  rw [← hv2, hsz] at hout0
  rw [hW1] at hv2
  unfold box at hv2
  rw [hleaf] at hv2
  have HV2 := Lib.hid hv2
  have HBX := Lib.hid (fun w' (q : Below (W.heap.size + 1 + 1) W1 w') => hbx2.below (by rw [hsz]; exact q))
  have HLY := Lib.hid (fun w' (q : Below (W.heap.size + 1 + 1) W1 w') => hl2.below (by rw [hsz]; exact q))
  have HAT := Lib.hid (fun w' (q : Below (W.heap.size + 1 + 1) W1 w') => hat.below (by rw [hsz]; exact q))
  have HB := Lib.hid (fun w' (q : Below (W.heap.size + 1 + 1) W1 w') => show Below W.heap.size W w' from bstep hB2 hB2.size (by rw [hsz]; exact q))
  have HSZ1 := Lib.hid hsz
  have HKL := Lib.hid hkl
  have HVL := Lib.hid hvl
  have HKE := Lib.hid hke
  have HVE := Lib.hid hve
  have HSM := Lib.hid hs
  have HF := Lib.hid hf
  have HLL := Lib.hid (show l.length ≤ 1000 by have := hf.len; omega)
  have hkn : n.keys.length ≤ 1000 := hs.k
  have hout0' := Lib.hid hout0
  clear hv2 hW1 hat hbx2 hl2 hB2 hsz b1 hbx b2 s1 hl hs hf hn hkl hvl hke hve hout0
  go_enter Try.func29, Try.ntmps29
  go_wp2_with fail
  rw [← HV2.out]
  clear HV2 hleaf
  generalize hg : W.heap.size = g at *
  have HG := Lib.hid hg
  clear hg
  generalize hgw : g + 1 + 1 = gw at *
  have HGW := Lib.hid hgw
  clear hgw
  go_loopw [6] (fun i wr => ∃ (k : Nat), k ≤ n.keys.length ∧ i = .int .i64 k ∧ Out gw W1 (del key (l.take k)) wr) (fun i _ => n.keys.length - (intOf i).toNat)
  case atStart => exact ⟨0, by omega, rfl, hout0'.out⟩
  case round =>
    clear hout0'
    obtain ⟨k, hk, rfl, hout⟩ := hrel
    obtain ⟨acc, hacc⟩ : ∃ x, x = del key (l.take k) := ⟨_, rfl⟩
    rw [← hacc] at hout
    have HACC := Lib.hid hacc
    clear hacc
    by_cases hlt : k < n.keys.length
    · have hltl : k < l.length := by have := HKL.out; omega
      have hltv : k < n.vals.length := by have := HVL.out; omega
      obtain ⟨p1, p2, hp⟩ : ∃ p1 p2, l[k] = (p1, p2) := ⟨_, _, rfl⟩
      have hk1 := HKE.out k hlt hltl
      have hk2 := HVE.out k hltv hltl
      have hps := HF.out.sz _ (List.getElem_mem hltl)
      have HTK := Lib.hid (show l.take (k + 1) = l.take k ++ [(p1, p2)] by rw [List.take_succ_eq_append_getElem hltl, hp])
      have HUT := Lib.hid (show Up (ks (l.take k ++ [(p1, p2)])) by rw [← HTK.out]; exact List.Pairwise.sublist ((List.take_sublist _ _).map _) HF.out.up)
      rw [hp] at hk1 hk2 hps
      obtain ⟨ad, hKA, hb1, hc1⟩ := strs_get (HLY.out W1 (Below.refl _ _)).k k hlt
      obtain ⟨bd, hVA, hb2, hc2⟩ := strs_get (HLY.out W1 (Below.refl _ _)).v k hltv
      rw [hk1] at hc1
      rw [hk2] at hc2
      have HXK := Lib.hid (fun (w' : World) (q : Below gw W1 w') => show w'.cell? ⟨g, 1, none⟩ = some (.slice (some ad) n.keys.length h.kc) ∧ w'.cell? ⟨g, 2, none⟩ = some (.slice (some bd) n.vals.length h.vc) ∧ w'.cell? (ad.add k) = some (.string p1) ∧ w'.cell? (bd.add k) = some (.string p2) by
        have hx := HBX.out w' q
        have hz := HSZ1.out
        exact ⟨by rw [← hKA]; exact hx.c1, by rw [← hVA]; exact hx.c2, (q.cell (p := ad.add k) (by rw [blk_add]; omega)).trans hc1, (q.cell (p := bd.add k) (by rw [blk_add]; omega)).trans hc2⟩)
      have HPS := Lib.hid (show p1.size ≤ maxLen by have := hps.1; simp only [maxLen] at *; omega)
      clear hKA hVA hb1 hb2 hc1 hc2 hk1 hk2 hps hp hltl
      by_cases hpe : p1 = key
      · skip
        have HE := Lib.hid hpe
        have heqb : (p1.toList == key.toList) = true := by rw [hpe]; simp
        clear hpe
        obtain ⟨c1, c2, c3, c4⟩ := HXK.out wr hout.b
        go_wp2_with fail
        go_roundw
        case rel => exact ⟨k + 1, by omega, by go_num, by rw [HTK.out, del_out HE.out, ← HACC.out]; exact hout⟩
        case measure => simp [intOf]; omega
      · skip
        have HE := Lib.hid hpe
        have heqb : (p1.toList == key.toList) = false := by rw [Str.ba_beq, decide_eq_false_iff_not]; exact hpe
        clear hpe
        obtain ⟨c1, c2, c3, c4⟩ := HXK.out wr hout.b
        go_wp2_with fail
        clear c1 c2 c3 c4 heqb
        have HLE := Lib.hid (show acc.length ≤ 50000 by have h1 := List.length_filter_le (fun p : ByteArray × ByteArray => !decide (p.1 = key)) (l.take k); have h2 := HLL.out; rw [List.length_take] at h1; rw [HACC.out]; unfold del; omega)
        obtain ⟨KA, kca, XA, xca, SK, SX, hw8, hSK, hSX⟩ := hout.gen
        have HSK := Lib.hid hSK
        have HSX := Lib.hid hSX
        have HSL := Lib.hid (show SK.length ≤ 100000 ∧ SX.length ≤ 100000 by rw [hSK, hSX]; simp only [strs, ks, vs, List.length_map]; have := HLE.out; omega)
        clear hSK hSX hout
        have hJ0 := fun a0 : Act => Duo.start (a1 := 8) (s1 := 19) (a2 := 17) (s2 := 21) (d1 := 34) (d2 := 43) (u := .string p1) (v := .string p2) (hw8.below (Below.refl _ _).drew) a0
        clear hw8
        refine wp_region_any (by kernel_rfl) ?_
        change wpAny _ _ _ _ _ _ _ (World.drew _)
        refine Inv4.inv_any (fun (i : Nat) (v : Value) (w : World) => match i with | 0 => v = .pointer (some ⟨gw, 1, none⟩) | 1 => v = .slice KA SK.length kca | 2 => v = .pointer (some ⟨g, 1, none⟩) | 3 => v = .slice (some ad) n.keys.length h.kc | 4 => v = .int .i64 (k : Int) | 5 => v = .pointer (some (ad.add k)) | 6 => v = .string p1 | 7 => Bs gw KA XA (.string p1) v w | 9 => v = .pointer (some ⟨gw, 2, none⟩) | 10 => v = .slice XA SX.length xca | 11 => v = .pointer (some ⟨g, 2, none⟩) | 12 => v = .slice (some bd) n.vals.length h.vc | 13 => v = .int .i64 (k : Int) | 14 => v = .pointer (some (bd.add k)) | 15 => v = .string p2 | 16 => Bs gw XA KA (.string p2) v w | 18 => v = .pointer (some ⟨gw, 1, none⟩) | 20 => v = .pointer (some ⟨gw, 2, none⟩) | _ => True) (Rd gw KA XA) (fun q a w => Duo gw W1 8 19 17 21 34 43 1 2 KA kca SK (.string p1) XA xca SX (.string p2) (World.drew wr).heap.size q a w) _ ?_ 47 rfl rfl rfl (by kernel_rfl) (hJ0 _) ?_ ?_
        · intro j v w w' h hb
          match j, h with
          | 0, h => exact h
          | 1, h => exact h
          | 2, h => exact h
          | 3, h => exact h
          | 4, h => exact h
          | 5, h => exact h
          | 6, h => exact h
          | 7, h => exact Bs.last h hb
          | 9, h => exact h
          | 10, h => exact h
          | 11, h => exact h
          | 12, h => exact h
          | 13, h => exact h
          | 14, h => exact h
          | 15, h => exact h
          | 16, h => exact Bs.last h hb.swap
          | 18, h => exact h
          | 20, h => exact h
          | 8, _ => exact trivial
          | 17, _ => exact trivial
          | 19, _ => exact trivial
          | 21, _ => exact trivial
          | (_ + 22), _ => exact trivial
        · skip
          refine Inv4.from_cons _ _ _ _ rfl (fun q a w hq hD hJ hF F K hK => ?_) ?_
          · have hz : a.tmps.size = 47 := hF.size
            have e5 : a.tmps[5]? = some (.pointer (some ⟨gw, 0, none⟩)) := Inv2.some_slot (by rw [hz]; exact Nat.le_of_ble_eq_true rfl) (hF.slot 5 (by kernel_rfl))
            clear F hF
            clear hz
            go_simp
            exact hK (.pointer (some ⟨gw, 1, none⟩)) _ rfl ((rd_below (Below.refl _ _))) (hJ.quiet (Below.refl _ _) rfl rfl rfl rfl (by decide) (by decide))
          refine Inv4.from_cons _ _ _ _ rfl (fun q a w hq hD hJ hF F K hK => ?_) ?_
          · have hz : a.tmps.size = 47 := hF.size
            have e26 : a.tmps[26]? = some (.pointer (some ⟨gw, 1, none⟩)) := Inv2.some_slot (by rw [hz]; exact Nat.le_of_ble_eq_true rfl) ((F 0 (by kernel_rfl)).2 26 rfl)
            clear F hF
            clear hz
            have hld := hJ.ld (hD.no hq (by kernel_rfl))
            go_simp
            exact hK (.slice KA SK.length kca) _ rfl (rd_below (Below.refl _ _)) (hJ.quiet (Below.refl _ _) rfl rfl rfl rfl (by decide) (by decide))
          refine Inv4.from_cons _ _ _ _ rfl (fun q a w hq hD hJ hF F K hK => ?_) ?_
          · have hz : a.tmps.size = 47 := hF.size
            have e2 : a.tmps[2]? = some (.pointer (some ⟨g, 0, none⟩)) := Inv2.some_slot (by rw [hz]; exact Nat.le_of_ble_eq_true rfl) (hF.slot 2 (by kernel_rfl))
            clear F hF
            clear hz
            go_simp
            exact hK (.pointer (some ⟨g, 1, none⟩)) _ rfl ((rd_below (Below.refl _ _))) (hJ.quiet (Below.refl _ _) rfl rfl rfl rfl (by decide) (by decide))
          refine Inv4.from_cons _ _ _ _ rfl (fun q a w hq hD hJ hF F K hK => ?_) ?_
          · have hz : a.tmps.size = 47 := hF.size
            have e28 : a.tmps[28]? = some (.pointer (some ⟨g, 1, none⟩)) := Inv2.some_slot (by rw [hz]; exact Nat.le_of_ble_eq_true rfl) ((F 2 (by kernel_rfl)).2 28 rfl)
            clear F hF
            clear hz
            obtain ⟨c1, c2, c3, c4⟩ := HXK.out w hJ.below
            go_simp
            exact hK (.slice (some ad) n.keys.length h.kc) _ rfl (rd_below (Below.refl _ _)) (hJ.quiet (Below.refl _ _) rfl rfl rfl rfl (by decide) (by decide))
          refine Inv4.from_cons _ _ _ _ rfl (fun q a w hq hD hJ hF F K hK => ?_) ?_
          · have hz : a.tmps.size = 47 := hF.size
            have e6 : a.tmps[6]? = some (.int .i64 (k : Int)) := Inv2.some_slot (by rw [hz]; exact Nat.le_of_ble_eq_true rfl) (hF.slot 6 (by kernel_rfl))
            clear F hF
            clear hz
            go_simp
            exact hK (.int .i64 (k : Int)) _ rfl ((rd_below (Below.refl _ _))) (hJ.quiet (Below.refl _ _) rfl rfl rfl rfl (by decide) (by decide))
          refine Inv4.from_cons _ _ _ _ rfl (fun q a w hq hD hJ hF F K hK => ?_) ?_
          · have hz : a.tmps.size = 47 := hF.size
            have e29 : a.tmps[29]? = some (.slice (some ad) n.keys.length h.kc) := Inv2.some_slot (by rw [hz]; exact Nat.le_of_ble_eq_true rfl) ((F 3 (by kernel_rfl)).2 29 rfl)
            have e30 : a.tmps[30]? = some (.int .i64 (k : Int)) := Inv2.some_slot (by rw [hz]; exact Nat.le_of_ble_eq_true rfl) ((F 4 (by kernel_rfl)).2 30 rfl)
            clear F hF
            clear hz
            go_simp
            exact hK (.pointer (some (ad.add k))) _ rfl ((rd_below (Below.refl _ _))) (hJ.quiet (Below.refl _ _) rfl rfl rfl rfl (by decide) (by decide))
          refine Inv4.from_cons _ _ _ _ rfl (fun q a w hq hD hJ hF F K hK => ?_) ?_
          · have hz : a.tmps.size = 47 := hF.size
            have e31 : a.tmps[31]? = some (.pointer (some (ad.add k))) := Inv2.some_slot (by rw [hz]; exact Nat.le_of_ble_eq_true rfl) ((F 5 (by kernel_rfl)).2 31 rfl)
            clear F hF
            clear hz
            obtain ⟨c1, c2, c3, c4⟩ := HXK.out w hJ.below
            go_simp
            exact hK (.string p1) _ rfl (rd_below (Below.refl _ _)) (hJ.quiet (Below.refl _ _) rfl rfl rfl rfl (by decide) (by decide))
          refine Inv4.from_cons _ _ _ _ rfl (fun q a w hq hD hJ hF F K hK => ?_) ?_
          · have hz : a.tmps.size = 47 := hF.size
            have e32 : a.tmps[32]? = some (.string p1) := Inv2.some_slot (by rw [hz]; exact Nat.le_of_ble_eq_true rfl) ((F 6 (by kernel_rfl)).2 32 rfl)
            clear F hF
            clear hz
            have hnew := hJ.new (.string p1)
            go_simp
            exact hK _ _ hnew (rd_below (al _ _)) (hJ.quiet (al _ _) rfl rfl rfl rfl (by decide) (by decide))
          refine Inv4.from_cons _ _ _ _ rfl (fun q a w hq hD hJ hF F K hK => ?_) ?_
          · have hz : a.tmps.size = 47 := hF.size
            have e27 : a.tmps[27]? = some (.slice KA SK.length kca) := Inv2.some_slot (by rw [hz]; exact Nat.le_of_ble_eq_true rfl) ((F 1 (by kernel_rfl)).2 27 rfl)
            obtain ⟨x33, e33, f7⟩ : ∃ x, a.tmps[33]? = some x ∧ Bs gw KA XA (.string p1) x w := ⟨_, Inv2.some_slot (by rw [hz]; exact Nat.le_of_ble_eq_true rfl) rfl, (F 7 (by kernel_rfl)).2 33 rfl⟩
            clear F hF
            have hsz : 34 < a.tmps.size := by rw [hz]; exact Nat.le_of_ble_eq_true rfl
            clear hz
            obtain ⟨g8, K2, kc2, w', rfl, hrun, hR, hJ2⟩ := hJ.app hq (hD.no hq (by kernel_rfl)) hsz (by decide) rfl rfl rfl f7 rfl SK.length rfl HSL.out.1
            refine NodeEnt.step_append_d (d := 34) rfl rfl (.tmp 27) (.tmp 33) 22 22 rfl (vs := .slice KA SK.length kca) (vx := .slice (some ⟨g8, 0, none⟩) 1 1) (by simp [Act.eval, e27]) (by simp [Act.eval, e33]) hrun ?_
            exact hK _ _ trivial hR hJ2
          refine Inv4.from_cons _ _ _ _ rfl (fun q a w hq hD hJ hF F K hK => ?_) ?_
          · have hz : a.tmps.size = 47 := hF.size
            have e5 : a.tmps[5]? = some (.pointer (some ⟨gw, 0, none⟩)) := Inv2.some_slot (by rw [hz]; exact Nat.le_of_ble_eq_true rfl) (hF.slot 5 (by kernel_rfl))
            clear F hF
            clear hz
            go_simp
            exact hK (.pointer (some ⟨gw, 2, none⟩)) _ rfl ((rd_below (Below.refl _ _))) (hJ.quiet (Below.refl _ _) rfl rfl rfl rfl (by decide) (by decide))
          refine Inv4.from_cons _ _ _ _ rfl (fun q a w hq hD hJ hF F K hK => ?_) ?_
          · have hz : a.tmps.size = 47 := hF.size
            have e35 : a.tmps[35]? = some (.pointer (some ⟨gw, 2, none⟩)) := Inv2.some_slot (by rw [hz]; exact Nat.le_of_ble_eq_true rfl) ((F 9 (by kernel_rfl)).2 35 rfl)
            clear F hF
            clear hz
            have hld := hJ.swap.ld (hD.no hq (by kernel_rfl))
            go_simp
            exact hK (.slice XA SX.length xca) _ rfl (rd_below (Below.refl _ _)) (hJ.quiet (Below.refl _ _) rfl rfl rfl rfl (by decide) (by decide))
          refine Inv4.from_cons _ _ _ _ rfl (fun q a w hq hD hJ hF F K hK => ?_) ?_
          · have hz : a.tmps.size = 47 := hF.size
            have e2 : a.tmps[2]? = some (.pointer (some ⟨g, 0, none⟩)) := Inv2.some_slot (by rw [hz]; exact Nat.le_of_ble_eq_true rfl) (hF.slot 2 (by kernel_rfl))
            clear F hF
            clear hz
            go_simp
            exact hK (.pointer (some ⟨g, 2, none⟩)) _ rfl ((rd_below (Below.refl _ _))) (hJ.quiet (Below.refl _ _) rfl rfl rfl rfl (by decide) (by decide))
          refine Inv4.from_cons _ _ _ _ rfl (fun q a w hq hD hJ hF F K hK => ?_) ?_
          · have hz : a.tmps.size = 47 := hF.size
            have e37 : a.tmps[37]? = some (.pointer (some ⟨g, 2, none⟩)) := Inv2.some_slot (by rw [hz]; exact Nat.le_of_ble_eq_true rfl) ((F 11 (by kernel_rfl)).2 37 rfl)
            clear F hF
            clear hz
            obtain ⟨c1, c2, c3, c4⟩ := HXK.out w hJ.below
            go_simp
            exact hK (.slice (some bd) n.vals.length h.vc) _ rfl (rd_below (Below.refl _ _)) (hJ.quiet (Below.refl _ _) rfl rfl rfl rfl (by decide) (by decide))
          refine Inv4.from_cons _ _ _ _ rfl (fun q a w hq hD hJ hF F K hK => ?_) ?_
          · have hz : a.tmps.size = 47 := hF.size
            have e6 : a.tmps[6]? = some (.int .i64 (k : Int)) := Inv2.some_slot (by rw [hz]; exact Nat.le_of_ble_eq_true rfl) (hF.slot 6 (by kernel_rfl))
            clear F hF
            clear hz
            go_simp
            exact hK (.int .i64 (k : Int)) _ rfl ((rd_below (Below.refl _ _))) (hJ.quiet (Below.refl _ _) rfl rfl rfl rfl (by decide) (by decide))
          refine Inv4.from_cons _ _ _ _ rfl (fun q a w hq hD hJ hF F K hK => ?_) ?_
          · have hz : a.tmps.size = 47 := hF.size
            have e38 : a.tmps[38]? = some (.slice (some bd) n.vals.length h.vc) := Inv2.some_slot (by rw [hz]; exact Nat.le_of_ble_eq_true rfl) ((F 12 (by kernel_rfl)).2 38 rfl)
            have e39 : a.tmps[39]? = some (.int .i64 (k : Int)) := Inv2.some_slot (by rw [hz]; exact Nat.le_of_ble_eq_true rfl) ((F 13 (by kernel_rfl)).2 39 rfl)
            clear F hF
            clear hz
            go_simp
            exact hK (.pointer (some (bd.add k))) _ rfl ((rd_below (Below.refl _ _))) (hJ.quiet (Below.refl _ _) rfl rfl rfl rfl (by decide) (by decide))
          refine Inv4.from_cons _ _ _ _ rfl (fun q a w hq hD hJ hF F K hK => ?_) ?_
          · have hz : a.tmps.size = 47 := hF.size
            have e40 : a.tmps[40]? = some (.pointer (some (bd.add k))) := Inv2.some_slot (by rw [hz]; exact Nat.le_of_ble_eq_true rfl) ((F 14 (by kernel_rfl)).2 40 rfl)
            clear F hF
            clear hz
            obtain ⟨c1, c2, c3, c4⟩ := HXK.out w hJ.below
            go_simp
            exact hK (.string p2) _ rfl (rd_below (Below.refl _ _)) (hJ.quiet (Below.refl _ _) rfl rfl rfl rfl (by decide) (by decide))
          refine Inv4.from_cons _ _ _ _ rfl (fun q a w hq hD hJ hF F K hK => ?_) ?_
          · have hz : a.tmps.size = 47 := hF.size
            have e41 : a.tmps[41]? = some (.string p2) := Inv2.some_slot (by rw [hz]; exact Nat.le_of_ble_eq_true rfl) ((F 15 (by kernel_rfl)).2 41 rfl)
            clear F hF
            clear hz
            have hnew := hJ.swap.new (.string p2)
            go_simp
            exact hK _ _ hnew (rd_below (al _ _)) (hJ.quiet (al _ _) rfl rfl rfl rfl (by decide) (by decide))
          refine Inv4.from_cons _ _ _ _ rfl (fun q a w hq hD hJ hF F K hK => ?_) ?_
          · have hz : a.tmps.size = 47 := hF.size
            have e36 : a.tmps[36]? = some (.slice XA SX.length xca) := Inv2.some_slot (by rw [hz]; exact Nat.le_of_ble_eq_true rfl) ((F 10 (by kernel_rfl)).2 36 rfl)
            obtain ⟨x42, e42, f16⟩ : ∃ x, a.tmps[42]? = some x ∧ Bs gw XA KA (.string p2) x w := ⟨_, Inv2.some_slot (by rw [hz]; exact Nat.le_of_ble_eq_true rfl) rfl, (F 16 (by kernel_rfl)).2 42 rfl⟩
            clear F hF
            have hsz : 43 < a.tmps.size := by rw [hz]; exact Nat.le_of_ble_eq_true rfl
            clear hz
            obtain ⟨g8, K2, kc2, w', rfl, hrun, hR, hJ2⟩ := hJ.swap.app hq (hD.no hq (by kernel_rfl)) hsz (by decide) rfl rfl rfl f16 rfl SX.length rfl HSL.out.2
            refine NodeEnt.step_append_d (d := 43) rfl rfl (.tmp 36) (.tmp 42) 22 22 rfl (vs := .slice XA SX.length xca) (vx := .slice (some ⟨g8, 0, none⟩) 1 1) (by simp [Act.eval, e36]) (by simp [Act.eval, e42]) hrun ?_
            exact hK _ _ trivial hR.swap hJ2.swap
          refine Inv4.from_cons _ _ _ _ rfl (fun q a w hq hD hJ hF F K hK => ?_) ?_
          · have hz : a.tmps.size = 47 := hF.size
            have e5 : a.tmps[5]? = some (.pointer (some ⟨gw, 0, none⟩)) := Inv2.some_slot (by rw [hz]; exact Nat.le_of_ble_eq_true rfl) (hF.slot 5 (by kernel_rfl))
            have e26 : a.tmps[26]? = some (.pointer (some ⟨gw, 1, none⟩)) := Inv2.some_slot (by rw [hz]; exact Nat.le_of_ble_eq_true rfl) ((F 0 (by kernel_rfl)).2 26 rfl)
            have e27 : a.tmps[27]? = some (.slice KA SK.length kca) := Inv2.some_slot (by rw [hz]; exact Nat.le_of_ble_eq_true rfl) ((F 1 (by kernel_rfl)).2 27 rfl)
            have e28 : a.tmps[28]? = some (.pointer (some ⟨g, 1, none⟩)) := Inv2.some_slot (by rw [hz]; exact Nat.le_of_ble_eq_true rfl) ((F 2 (by kernel_rfl)).2 28 rfl)
            have e29 : a.tmps[29]? = some (.slice (some ad) n.keys.length h.kc) := Inv2.some_slot (by rw [hz]; exact Nat.le_of_ble_eq_true rfl) ((F 3 (by kernel_rfl)).2 29 rfl)
            have e30 : a.tmps[30]? = some (.int .i64 (k : Int)) := Inv2.some_slot (by rw [hz]; exact Nat.le_of_ble_eq_true rfl) ((F 4 (by kernel_rfl)).2 30 rfl)
            have e31 : a.tmps[31]? = some (.pointer (some (ad.add k))) := Inv2.some_slot (by rw [hz]; exact Nat.le_of_ble_eq_true rfl) ((F 5 (by kernel_rfl)).2 31 rfl)
            have e32 : a.tmps[32]? = some (.string p1) := Inv2.some_slot (by rw [hz]; exact Nat.le_of_ble_eq_true rfl) ((F 6 (by kernel_rfl)).2 32 rfl)
            obtain ⟨x33, e33, f7⟩ : ∃ x, a.tmps[33]? = some x ∧ Bs gw KA XA (.string p1) x w := ⟨_, Inv2.some_slot (by rw [hz]; exact Nat.le_of_ble_eq_true rfl) rfl, (F 7 (by kernel_rfl)).2 33 rfl⟩
            have e35 : a.tmps[35]? = some (.pointer (some ⟨gw, 2, none⟩)) := Inv2.some_slot (by rw [hz]; exact Nat.le_of_ble_eq_true rfl) ((F 9 (by kernel_rfl)).2 35 rfl)
            have e36 : a.tmps[36]? = some (.slice XA SX.length xca) := Inv2.some_slot (by rw [hz]; exact Nat.le_of_ble_eq_true rfl) ((F 10 (by kernel_rfl)).2 36 rfl)
            clear F hF
            clear hz
            go_simp
            exact hK (.pointer (some ⟨gw, 1, none⟩)) _ rfl ((rd_below (Below.refl _ _))) (hJ.quiet (Below.refl _ _) rfl rfl rfl rfl (by decide) (by decide))
          refine Inv4.from_cons _ _ _ _ rfl (fun q a w hq hD hJ hF F K hK => ?_) ?_
          · have hz : a.tmps.size = 47 := hF.size
            have e26 : a.tmps[26]? = some (.pointer (some ⟨gw, 1, none⟩)) := Inv2.some_slot (by rw [hz]; exact Nat.le_of_ble_eq_true rfl) ((F 0 (by kernel_rfl)).2 26 rfl)
            have e27 : a.tmps[27]? = some (.slice KA SK.length kca) := Inv2.some_slot (by rw [hz]; exact Nat.le_of_ble_eq_true rfl) ((F 1 (by kernel_rfl)).2 27 rfl)
            have e28 : a.tmps[28]? = some (.pointer (some ⟨g, 1, none⟩)) := Inv2.some_slot (by rw [hz]; exact Nat.le_of_ble_eq_true rfl) ((F 2 (by kernel_rfl)).2 28 rfl)
            have e29 : a.tmps[29]? = some (.slice (some ad) n.keys.length h.kc) := Inv2.some_slot (by rw [hz]; exact Nat.le_of_ble_eq_true rfl) ((F 3 (by kernel_rfl)).2 29 rfl)
            have e30 : a.tmps[30]? = some (.int .i64 (k : Int)) := Inv2.some_slot (by rw [hz]; exact Nat.le_of_ble_eq_true rfl) ((F 4 (by kernel_rfl)).2 30 rfl)
            have e31 : a.tmps[31]? = some (.pointer (some (ad.add k))) := Inv2.some_slot (by rw [hz]; exact Nat.le_of_ble_eq_true rfl) ((F 5 (by kernel_rfl)).2 31 rfl)
            have e32 : a.tmps[32]? = some (.string p1) := Inv2.some_slot (by rw [hz]; exact Nat.le_of_ble_eq_true rfl) ((F 6 (by kernel_rfl)).2 32 rfl)
            obtain ⟨x33, e33, f7⟩ : ∃ x, a.tmps[33]? = some x ∧ Bs gw KA XA (.string p1) x w := ⟨_, Inv2.some_slot (by rw [hz]; exact Nat.le_of_ble_eq_true rfl) rfl, (F 7 (by kernel_rfl)).2 33 rfl⟩
            have b8 := (F 8 (by kernel_rfl)).1
            have e35 : a.tmps[35]? = some (.pointer (some ⟨gw, 2, none⟩)) := Inv2.some_slot (by rw [hz]; exact Nat.le_of_ble_eq_true rfl) ((F 9 (by kernel_rfl)).2 35 rfl)
            have e36 : a.tmps[36]? = some (.slice XA SX.length xca) := Inv2.some_slot (by rw [hz]; exact Nat.le_of_ble_eq_true rfl) ((F 10 (by kernel_rfl)).2 36 rfl)
            have e44 : a.tmps[44]? = some (.pointer (some ⟨gw, 1, none⟩)) := Inv2.some_slot (by rw [hz]; exact Nat.le_of_ble_eq_true rfl) ((F 18 (by kernel_rfl)).2 44 rfl)
            clear F hF
            obtain ⟨K2, kc2, hv⟩ := hJ.val b8
            have e34 : a.tmps[34]? = some (.slice K2 (SK.length + 1) kc2) := Inv2.some_slot (by rw [hz]; exact Nat.le_of_ble_eq_true rfl) hv
            clear hz
            obtain ⟨⟨u0, hc0⟩, hz0⟩ := hJ.cell
            obtain ⟨hR, hJ2⟩ := hJ.st rfl rfl rfl (by decide) (by decide) (by decide) (by decide) hv undef
            clear hv
            go_simp
            exact hK undef _ trivial hR hJ2
          refine Inv4.from_cons _ _ _ _ rfl (fun q a w hq hD hJ hF F K hK => ?_) ?_
          · have hz : a.tmps.size = 47 := hF.size
            have e5 : a.tmps[5]? = some (.pointer (some ⟨gw, 0, none⟩)) := Inv2.some_slot (by rw [hz]; exact Nat.le_of_ble_eq_true rfl) (hF.slot 5 (by kernel_rfl))
            have e26 : a.tmps[26]? = some (.pointer (some ⟨gw, 1, none⟩)) := Inv2.some_slot (by rw [hz]; exact Nat.le_of_ble_eq_true rfl) ((F 0 (by kernel_rfl)).2 26 rfl)
            have e27 : a.tmps[27]? = some (.slice KA SK.length kca) := Inv2.some_slot (by rw [hz]; exact Nat.le_of_ble_eq_true rfl) ((F 1 (by kernel_rfl)).2 27 rfl)
            have e28 : a.tmps[28]? = some (.pointer (some ⟨g, 1, none⟩)) := Inv2.some_slot (by rw [hz]; exact Nat.le_of_ble_eq_true rfl) ((F 2 (by kernel_rfl)).2 28 rfl)
            have e29 : a.tmps[29]? = some (.slice (some ad) n.keys.length h.kc) := Inv2.some_slot (by rw [hz]; exact Nat.le_of_ble_eq_true rfl) ((F 3 (by kernel_rfl)).2 29 rfl)
            have e30 : a.tmps[30]? = some (.int .i64 (k : Int)) := Inv2.some_slot (by rw [hz]; exact Nat.le_of_ble_eq_true rfl) ((F 4 (by kernel_rfl)).2 30 rfl)
            have e31 : a.tmps[31]? = some (.pointer (some (ad.add k))) := Inv2.some_slot (by rw [hz]; exact Nat.le_of_ble_eq_true rfl) ((F 5 (by kernel_rfl)).2 31 rfl)
            have e32 : a.tmps[32]? = some (.string p1) := Inv2.some_slot (by rw [hz]; exact Nat.le_of_ble_eq_true rfl) ((F 6 (by kernel_rfl)).2 32 rfl)
            obtain ⟨x33, e33, f7⟩ : ∃ x, a.tmps[33]? = some x ∧ Bs gw KA XA (.string p1) x w := ⟨_, Inv2.some_slot (by rw [hz]; exact Nat.le_of_ble_eq_true rfl) rfl, (F 7 (by kernel_rfl)).2 33 rfl⟩
            have e35 : a.tmps[35]? = some (.pointer (some ⟨gw, 2, none⟩)) := Inv2.some_slot (by rw [hz]; exact Nat.le_of_ble_eq_true rfl) ((F 9 (by kernel_rfl)).2 35 rfl)
            have e36 : a.tmps[36]? = some (.slice XA SX.length xca) := Inv2.some_slot (by rw [hz]; exact Nat.le_of_ble_eq_true rfl) ((F 10 (by kernel_rfl)).2 36 rfl)
            have e37 : a.tmps[37]? = some (.pointer (some ⟨g, 2, none⟩)) := Inv2.some_slot (by rw [hz]; exact Nat.le_of_ble_eq_true rfl) ((F 11 (by kernel_rfl)).2 37 rfl)
            have e38 : a.tmps[38]? = some (.slice (some bd) n.vals.length h.vc) := Inv2.some_slot (by rw [hz]; exact Nat.le_of_ble_eq_true rfl) ((F 12 (by kernel_rfl)).2 38 rfl)
            have e39 : a.tmps[39]? = some (.int .i64 (k : Int)) := Inv2.some_slot (by rw [hz]; exact Nat.le_of_ble_eq_true rfl) ((F 13 (by kernel_rfl)).2 39 rfl)
            have e40 : a.tmps[40]? = some (.pointer (some (bd.add k))) := Inv2.some_slot (by rw [hz]; exact Nat.le_of_ble_eq_true rfl) ((F 14 (by kernel_rfl)).2 40 rfl)
            have e41 : a.tmps[41]? = some (.string p2) := Inv2.some_slot (by rw [hz]; exact Nat.le_of_ble_eq_true rfl) ((F 15 (by kernel_rfl)).2 41 rfl)
            obtain ⟨x42, e42, f16⟩ : ∃ x, a.tmps[42]? = some x ∧ Bs gw XA KA (.string p2) x w := ⟨_, Inv2.some_slot (by rw [hz]; exact Nat.le_of_ble_eq_true rfl) rfl, (F 16 (by kernel_rfl)).2 42 rfl⟩
            have e44 : a.tmps[44]? = some (.pointer (some ⟨gw, 1, none⟩)) := Inv2.some_slot (by rw [hz]; exact Nat.le_of_ble_eq_true rfl) ((F 18 (by kernel_rfl)).2 44 rfl)
            clear F hF
            clear hz
            go_simp
            exact hK (.pointer (some ⟨gw, 2, none⟩)) _ rfl ((rd_below (Below.refl _ _))) (hJ.quiet (Below.refl _ _) rfl rfl rfl rfl (by decide) (by decide))
          refine Inv4.from_cons _ _ _ _ rfl (fun q a w hq hD hJ hF F K hK => ?_) ?_
          · have hz : a.tmps.size = 47 := hF.size
            have e26 : a.tmps[26]? = some (.pointer (some ⟨gw, 1, none⟩)) := Inv2.some_slot (by rw [hz]; exact Nat.le_of_ble_eq_true rfl) ((F 0 (by kernel_rfl)).2 26 rfl)
            have e27 : a.tmps[27]? = some (.slice KA SK.length kca) := Inv2.some_slot (by rw [hz]; exact Nat.le_of_ble_eq_true rfl) ((F 1 (by kernel_rfl)).2 27 rfl)
            have e28 : a.tmps[28]? = some (.pointer (some ⟨g, 1, none⟩)) := Inv2.some_slot (by rw [hz]; exact Nat.le_of_ble_eq_true rfl) ((F 2 (by kernel_rfl)).2 28 rfl)
            have e29 : a.tmps[29]? = some (.slice (some ad) n.keys.length h.kc) := Inv2.some_slot (by rw [hz]; exact Nat.le_of_ble_eq_true rfl) ((F 3 (by kernel_rfl)).2 29 rfl)
            have e30 : a.tmps[30]? = some (.int .i64 (k : Int)) := Inv2.some_slot (by rw [hz]; exact Nat.le_of_ble_eq_true rfl) ((F 4 (by kernel_rfl)).2 30 rfl)
            have e31 : a.tmps[31]? = some (.pointer (some (ad.add k))) := Inv2.some_slot (by rw [hz]; exact Nat.le_of_ble_eq_true rfl) ((F 5 (by kernel_rfl)).2 31 rfl)
            have e32 : a.tmps[32]? = some (.string p1) := Inv2.some_slot (by rw [hz]; exact Nat.le_of_ble_eq_true rfl) ((F 6 (by kernel_rfl)).2 32 rfl)
            obtain ⟨x33, e33, f7⟩ : ∃ x, a.tmps[33]? = some x ∧ Bs gw KA XA (.string p1) x w := ⟨_, Inv2.some_slot (by rw [hz]; exact Nat.le_of_ble_eq_true rfl) rfl, (F 7 (by kernel_rfl)).2 33 rfl⟩
            have e35 : a.tmps[35]? = some (.pointer (some ⟨gw, 2, none⟩)) := Inv2.some_slot (by rw [hz]; exact Nat.le_of_ble_eq_true rfl) ((F 9 (by kernel_rfl)).2 35 rfl)
            have e36 : a.tmps[36]? = some (.slice XA SX.length xca) := Inv2.some_slot (by rw [hz]; exact Nat.le_of_ble_eq_true rfl) ((F 10 (by kernel_rfl)).2 36 rfl)
            have e37 : a.tmps[37]? = some (.pointer (some ⟨g, 2, none⟩)) := Inv2.some_slot (by rw [hz]; exact Nat.le_of_ble_eq_true rfl) ((F 11 (by kernel_rfl)).2 37 rfl)
            have e38 : a.tmps[38]? = some (.slice (some bd) n.vals.length h.vc) := Inv2.some_slot (by rw [hz]; exact Nat.le_of_ble_eq_true rfl) ((F 12 (by kernel_rfl)).2 38 rfl)
            have e39 : a.tmps[39]? = some (.int .i64 (k : Int)) := Inv2.some_slot (by rw [hz]; exact Nat.le_of_ble_eq_true rfl) ((F 13 (by kernel_rfl)).2 39 rfl)
            have e40 : a.tmps[40]? = some (.pointer (some (bd.add k))) := Inv2.some_slot (by rw [hz]; exact Nat.le_of_ble_eq_true rfl) ((F 14 (by kernel_rfl)).2 40 rfl)
            have e41 : a.tmps[41]? = some (.string p2) := Inv2.some_slot (by rw [hz]; exact Nat.le_of_ble_eq_true rfl) ((F 15 (by kernel_rfl)).2 41 rfl)
            obtain ⟨x42, e42, f16⟩ : ∃ x, a.tmps[42]? = some x ∧ Bs gw XA KA (.string p2) x w := ⟨_, Inv2.some_slot (by rw [hz]; exact Nat.le_of_ble_eq_true rfl) rfl, (F 16 (by kernel_rfl)).2 42 rfl⟩
            have b17 := (F 17 (by kernel_rfl)).1
            have e44 : a.tmps[44]? = some (.pointer (some ⟨gw, 1, none⟩)) := Inv2.some_slot (by rw [hz]; exact Nat.le_of_ble_eq_true rfl) ((F 18 (by kernel_rfl)).2 44 rfl)
            have e45 : a.tmps[45]? = some (.pointer (some ⟨gw, 2, none⟩)) := Inv2.some_slot (by rw [hz]; exact Nat.le_of_ble_eq_true rfl) ((F 20 (by kernel_rfl)).2 45 rfl)
            clear F hF
            obtain ⟨K2, kc2, hv⟩ := hJ.swap.val b17
            have e43 : a.tmps[43]? = some (.slice K2 (SX.length + 1) kc2) := Inv2.some_slot (by rw [hz]; exact Nat.le_of_ble_eq_true rfl) hv
            clear hz
            obtain ⟨⟨u0, hc0⟩, hz0⟩ := hJ.swap.cell
            obtain ⟨hR, hJ2⟩ := hJ.swap.st rfl rfl rfl (by decide) (by decide) (by decide) (by decide) hv undef
            clear hv
            go_simp
            exact hK undef _ trivial hR.swap hJ2.swap
          exact Inv4.from_end _ _ _ _ (by decide +kernel)
        · intro a w hJ hF F
          obtain ⟨f, hf⟩ : ∃ f : Nat → Value, ∀ i, a.tmps.getD i undef = f i := ⟨_, fun _ => rfl⟩
          obtain ⟨K2, kc2, X2, xc2, hw9⟩ := hJ.fin (by decide +kernel) (by decide +kernel) (by decide +kernel) (by decide +kernel)
          clear hJ
          have g0 : f 0 = (nv n h) := (hf 0).symm.trans (hF.slot 0 (by kernel_rfl))
          have g1 : f 1 = (.string key) := (hf 1).symm.trans (hF.slot 1 (by kernel_rfl))
          have g2 : f 2 = (.pointer (some ⟨g, 0, none⟩)) := (hf 2).symm.trans (hF.slot 2 (by kernel_rfl))
          have g3 : f 3 = (undef) := (hf 3).symm.trans (hF.slot 3 (by kernel_rfl))
          have g4 : f 4 = (.pointer (some ⟨g + 1, 0, none⟩)) := (hf 4).symm.trans (hF.slot 4 (by kernel_rfl))
          have g5 : f 5 = (.pointer (some ⟨gw, 0, none⟩)) := (hf 5).symm.trans (hF.slot 5 (by kernel_rfl))
          have g6 : f 6 = (.int .i64 (k : Int)) := (hf 6).symm.trans (hF.slot 6 (by kernel_rfl))
          have g7 : f 7 = (.pointer (some ⟨g, 0, none⟩)) := (hf 7).symm.trans (hF.slot 7 (by kernel_rfl))
          have g8 : f 8 = (.bool true) := (hf 8).symm.trans (hF.slot 8 (by kernel_rfl))
          have g9 : f 9 = (.bool false) := (hf 9).symm.trans (hF.slot 9 (by kernel_rfl))
          have g10 : f 10 = (undef) := (hf 10).symm.trans (hF.slot 10 (by kernel_rfl))
          have g11 : f 11 = (.agg #[.bool true, .slice none 0 0, .slice none 0 0, .slice none 0 0]) := (hf 11).symm.trans (hF.slot 11 (by kernel_rfl))
          have g46 : f 46 = (undef) := (hf 46).symm.trans (hF.slot 46 (by kernel_rfl))
          have g26 : f 26 = (.pointer (some ⟨gw, 1, none⟩)) := (hf 26).symm.trans (F 0 26 rfl)
          have g27 : f 27 = (.slice KA SK.length kca) := (hf 27).symm.trans (F 1 27 rfl)
          have g28 : f 28 = (.pointer (some ⟨g, 1, none⟩)) := (hf 28).symm.trans (F 2 28 rfl)
          have g29 : f 29 = (.slice (some ad) n.keys.length h.kc) := (hf 29).symm.trans (F 3 29 rfl)
          have g30 : f 30 = (.int .i64 (k : Int)) := (hf 30).symm.trans (F 4 30 rfl)
          have g31 : f 31 = (.pointer (some (ad.add k))) := (hf 31).symm.trans (F 5 31 rfl)
          have g32 : f 32 = (.string p1) := (hf 32).symm.trans (F 6 32 rfl)
          obtain ⟨x33, g33⟩ : ∃ x, f 33 = x := ⟨_, rfl⟩
          have f7 : Bs gw KA XA (.string p1) x33 w := by rw [← g33, ← hf 33]; exact F 7 33 rfl
          have g35 : f 35 = (.pointer (some ⟨gw, 2, none⟩)) := (hf 35).symm.trans (F 9 35 rfl)
          have g36 : f 36 = (.slice XA SX.length xca) := (hf 36).symm.trans (F 10 36 rfl)
          have g37 : f 37 = (.pointer (some ⟨g, 2, none⟩)) := (hf 37).symm.trans (F 11 37 rfl)
          have g38 : f 38 = (.slice (some bd) n.vals.length h.vc) := (hf 38).symm.trans (F 12 38 rfl)
          have g39 : f 39 = (.int .i64 (k : Int)) := (hf 39).symm.trans (F 13 39 rfl)
          have g40 : f 40 = (.pointer (some (bd.add k))) := (hf 40).symm.trans (F 14 40 rfl)
          have g41 : f 41 = (.string p2) := (hf 41).symm.trans (F 15 41 rfl)
          obtain ⟨x42, g42⟩ : ∃ x, f 42 = x := ⟨_, rfl⟩
          have f16 : Bs gw XA KA (.string p2) x42 w := by rw [← g42, ← hf 42]; exact F 16 42 rfl
          have g44 : f 44 = (.pointer (some ⟨gw, 1, none⟩)) := (hf 44).symm.trans (F 18 44 rfl)
          have g45 : f 45 = (.pointer (some ⟨gw, 2, none⟩)) := (hf 45).symm.trans (F 20 45 rfl)
          have ha := Frames.frame (show a.tmps.size = 47 from hF.size) hF.defers hf (l := [f 0, f 1, f 2, f 3, f 4, f 5, f 6, f 7, f 8, f 9, f 10, f 11, f 12, f 13, f 14, f 15, f 16, f 17, f 18, f 19, f 20, f 21, f 22, f 23, f 24, f 25, f 26, f 27, f 28, f 29, f 30, f 31, f 32, f 33, f 34, f 35, f 36, f 37, f 38, f 39, f 40, f 41, f 42, f 43, f 44, f 45, f 46]) rfl
          simp only [g0, g1, g2, g3, g4, g5, g6, g7, g8, g9, g10, g11, g46, g26, g27, g28, g29, g30, g31, g32, g33, g35, g36, g37, g38, g39, g40, g41, g42, g44, g45] at ha
          clear F hF hf g0 g1 g2 g3 g4 g5 g6 g7 g8 g9 g10 g11 g46 g26 g27 g28 g29 g30 g31 g32 g33 g35 g36 g37 g38 g39 g40 g41 g42 g44 g45
          subst ha
          have hout := out_fin HSK.out HSX.out hw9
          clear HSK HSX HSL hw9
          go_wp2_with fail
          go_roundw
          case rel => exact ⟨k + 1, by omega, by go_num, by rw [HTK.out, del_in HE.out, ← HACC.out]; exact hout⟩
          case measure => simp [intOf]; omega
    · obtain rfl : k = n.keys.length := by omega
      have HTA : l.take n.keys.length = l := List.take_of_length_le (by have := HKL.out; omega)
      have hac2 := HACC.out
      rw [HTA] at hac2
      clear HACC HTA
      have HAE := Lib.hid hac2
      clear hac2
      obtain ⟨_, c1, _, _, _⟩ := HBX.out wr hout.b
      obtain ⟨KZ, kcz, XZ, xcz, hw⟩ := hout
      obtain ⟨q0, q1, q2, q3, _⟩ := hw.at'.f4
      have hat := HAT.out _ hw.b
      obtain ⟨z0, z1, z2, z3, y0, y1, y2, y3⟩ := hat.f4
      have hlt1 : g + 1 < gw + 1 := by have := HGW.out; omega
      have HA := Lib.hid (set4 hat (.bool true) (.slice KZ (acc).length kcz) (.slice XZ (acc).length xcz) (.slice none 0 0))
      have HV := Lib.hid ((out_nvo hw).st4 (g := g + 1) (a := .bool true) (b := .slice KZ (acc).length kcz) (c := .slice XZ (acc).length xcz) (d := .slice none 0 0) hlt1).nv
      have HBB := Lib.hid (below4 (HB.out _ hw.b) (show g ≤ g + 1 by omega) (.bool true) (.slice KZ (acc).length kcz) (.slice XZ (acc).length xcz) (.slice none 0 0))
      clear hw hat hlt1
      go_wp2_with fail
      refine bodyPost_ret (results_cell_row rfl _ _ (g + 1) 25 _ (0, 0) _ rfl HA.out Try.underlying25 rfl (by kernel_rfl)) rfl ?_
      exact ⟨_, rfl, lv_of HV.out (by rw [HAE.out]), by rw [HG.out]; exact HBB.out⟩
end Go.Proofs.Ytpcpfcllgadghaa.NodeRefDrop
