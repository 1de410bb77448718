/- The contract of Join. -/
import Derived.Test.YtpcpfcllgadghaaNodeCopied
import Derived.Test.YtpcpfcllgadghaaInv2
import Derived.Test.YtpcpfcllgadghaaLits
namespace Go.Proofs.Ytpcpfcllgadghaa.NodeJoin
open Go.RowKit Base NodePlain NodeRead NodeSlice NodeCheck NodeBox NodeCopied

set_option maxRecDepth 100000 in
set_option maxHeartbeats 6400000 in
theorem join_leaf (W : World) (na nb : Nd) (ha hb : Hd) (key : ByteArray) (la : Lay W na ha) (lb : Lay W nb hb) (sa : Small na) (sb : Small nb) (ea : na.leaf = true) (eb : nb.leaf = true) :
    Calls Try.prog 32 #[nv na ha, .string key, nv nb hb] W fun e w' => ∃ v, e = .returned v ∧ Nv ⟨true, na.keys ++ nb.keys, na.vals ++ nb.vals, []⟩ v w' ∧ Below W.heap.size W w' := by
  have HSA := Lib.hid sa
  have HSB := Lib.hid sb
  have b1 := box_below W na ha
  have b2 := box_below (box W na ha) nb hb
  have b3 := al (box (box W na ha) nb hb) (.cells #[.bool false, .slice none 0 0, .slice none 0 0, .slice none 0 0] 25)
  have x1 := ((bx_new W na ha).below b2).below b3
  have x2 := (bx_new (box W na ha) nb hb).below b3
  have l1 := ((la.below b1).below b2).below b3
  have l2 := ((lb.below b1).below b2).below b3
  have at3 := at_new (box (box W na ha) nb hb) #[.bool false, .slice none 0 0, .slice none 0 0, .slice none 0 0] 25
  have s1 : (box W na ha).heap.size = W.heap.size + 1 := by simp
  have s2 : (box (box W na ha) nb hb).heap.size = W.heap.size + 1 + 1 := by simp
  rw [s1] at x2
  rw [s2] at at3
  have hB := Below.step (Below.step b1 b2) b3
  obtain ⟨w3, hw3⟩ : ∃ v, v = (box (box W na ha) nb hb).alloc (.cells #[.bool false, .slice none 0 0, .slice none 0 0, .slice none 0 0] 25) := ⟨_, rfl⟩
  rw [← hw3] at x1 x2 l1 l2 at3 hB
  unfold box at hw3
  rw [ea, eb] at hw3
  have HW3 := Lib.hid hw3
  clear hw3 b1 b2 b3 s1 s2 la lb sa sb
  go_enter Try.func32, Try.ntmps32
  go_wp2_with fail
  rw [← HW3.out]
  clear HW3
  generalize hg : W.heap.size = g at *
  have HG := Lib.hid hg
  clear hg
  have hJ0 : (fun w' : World => Bx w' g na ha ∧ Lay w' na ha ∧ Bx w' (g + 1) nb hb ∧ Lay w' nb hb ∧ At w' (g + 1 + 1) 25 #[.bool false, .slice none 0 0, .slice none 0 0, .slice none 0 0] ∧ Below g W w') (World.drew w3) := ⟨x1.below (Below.refl _ _).drew, l1.below (Below.refl _ _).drew, x2.below (Below.refl _ _).drew, l2.below (Below.refl _ _).drew, at3, hB.drew⟩
  clear x1 x2 l1 l2 at3 hB ea eb
  refine wp_region_any (by kernel_rfl) ?_
  change wpAny _ _ _ _ _ _ _ (World.drew _)
  refine Inv.inv_any (fun (i : Nat) (v : Value) (w : World) => match i with | 0 => v = .pointer (some ⟨g, 1, none⟩) | 1 => v = .slice ha.K na.keys.length ha.kc | 2 => v = .pointer (some ⟨g + 1, 1, none⟩) | 3 => v = .slice hb.K nb.keys.length hb.kc | 4 => Pcs [strs na.keys, strs nb.keys] v w | 5 => SlO (g + 3) (strs (na.keys ++ nb.keys)) v w | 6 => v = .pointer (some ⟨g, 2, none⟩) | 7 => v = .slice ha.V na.vals.length ha.vc | 8 => v = .pointer (some ⟨g + 1, 2, none⟩) | 9 => v = .slice hb.V nb.vals.length hb.vc | 10 => Pcs [strs na.vals, strs nb.vals] v w | 11 => SlO (g + 3) (strs (na.vals ++ nb.vals)) v w | 12 => NvO (g + 3) ⟨true, na.keys ++ nb.keys, na.vals ++ nb.vals, []⟩ v w | _ => True) (fun w' : World => Bx w' g na ha ∧ Lay w' na ha ∧ Bx w' (g + 1) nb hb ∧ Lay w' nb hb ∧ At w' (g + 1 + 1) 25 #[.bool false, .slice none 0 0, .slice none 0 0, .slice none 0 0] ∧ Below g W w') _ 13 44 rfl rfl rfl (by kernel_rfl) (by kernel_rfl) hJ0 ?_ ?_ ?_ ?_
  · intro j v w w' h hb
    match j, h with
    | 0, h => exact h
    | 1, h => exact h
    | 2, h => exact h
    | 3, h => exact h
    | 4, h => exact Pcs.below h hb
    | 5, h => exact SlO.below h hb
    | 6, h => exact h
    | 7, h => exact h
    | 8, h => exact h
    | 9, h => exact h
    | 10, h => exact Pcs.below h hb
    | 11, h => exact SlO.below h hb
    | 12, h => exact NvO.below h hb
    | 13, _ => exact trivial
    | (_ + 14), _ => exact trivial
  · skip
    refine Inv.from_cons _ _ _ _ rfl (fun _ a w hJ hF F K hK => ?_) ?_
    · have hz : a.tmps.size = 44 := hF.size
      have e3 : a.tmps[3]? = some (.pointer (some ⟨g, 0, none⟩)) := Inv2.some_slot (by rw [hz]; exact Nat.le_of_ble_eq_true rfl) (hF.slot 3 (by kernel_rfl))
      clear F hF hz
      have hJ1 := hJ
      obtain ⟨⟨c0, c1, c2, c3, _⟩, _, ⟨d0, d1, d2, d3, _⟩, _, _, _⟩ := hJ1
      go_simp
      exact hK (.pointer (some ⟨g, 1, none⟩)) _ hJ (Below.refl _ _) rfl
    refine Inv.from_cons _ _ _ _ rfl (fun _ a w hJ hF F K hK => ?_) ?_
    · have hz : a.tmps.size = 44 := hF.size
      have e16 : a.tmps[16]? = some (.pointer (some ⟨g, 1, none⟩)) := Inv2.some_slot (by rw [hz]; exact Nat.le_of_ble_eq_true rfl) (F 0 (by kernel_rfl) 16 rfl)
      clear F hF hz
      have hJ1 := hJ
      obtain ⟨⟨c0, c1, c2, c3, _⟩, _, ⟨d0, d1, d2, d3, _⟩, _, _, _⟩ := hJ1
      go_simp
      exact hK (.slice ha.K na.keys.length ha.kc) _ hJ (Below.refl _ _) rfl
    refine Inv.from_cons _ _ _ _ rfl (fun _ a w hJ hF F K hK => ?_) ?_
    · have hz : a.tmps.size = 44 := hF.size
      have e5 : a.tmps[5]? = some (.pointer (some ⟨g + 1, 0, none⟩)) := Inv2.some_slot (by rw [hz]; exact Nat.le_of_ble_eq_true rfl) (hF.slot 5 (by kernel_rfl))
      clear F hF hz
      have hJ1 := hJ
      obtain ⟨⟨c0, c1, c2, c3, _⟩, _, ⟨d0, d1, d2, d3, _⟩, _, _, _⟩ := hJ1
      go_simp
      exact hK (.pointer (some ⟨g + 1, 1, none⟩)) _ hJ (Below.refl _ _) rfl
    refine Inv.from_cons _ _ _ _ rfl (fun _ a w hJ hF F K hK => ?_) ?_
    · have hz : a.tmps.size = 44 := hF.size
      have e18 : a.tmps[18]? = some (.pointer (some ⟨g + 1, 1, none⟩)) := Inv2.some_slot (by rw [hz]; exact Nat.le_of_ble_eq_true rfl) (F 2 (by kernel_rfl) 18 rfl)
      clear F hF hz
      have hJ1 := hJ
      obtain ⟨⟨c0, c1, c2, c3, _⟩, _, ⟨d0, d1, d2, d3, _⟩, _, _, _⟩ := hJ1
      go_simp
      exact hK (.slice hb.K nb.keys.length hb.kc) _ hJ (Below.refl _ _) rfl
    refine Inv.from_cons _ _ _ _ rfl (fun _ a w hJ hF F K hK => ?_) ?_
    · have hz : a.tmps.size = 44 := hF.size
      have e17 : a.tmps[17]? = some (.slice ha.K na.keys.length ha.kc) := Inv2.some_slot (by rw [hz]; exact Nat.le_of_ble_eq_true rfl) (F 1 (by kernel_rfl) 17 rfl)
      have e19 : a.tmps[19]? = some (.slice hb.K nb.keys.length hb.kc) := Inv2.some_slot (by rw [hz]; exact Nat.le_of_ble_eq_true rfl) (F 3 (by kernel_rfl) 19 rfl)
      clear F hF hz
      have hJ1 := hJ
      obtain ⟨⟨c0, c1, c2, c3, _⟩, _, ⟨d0, d1, d2, d3, _⟩, _, _, _⟩ := hJ1
      go_simp
      exact hK _ _ ⟨hJ.1.below (al _ _), hJ.2.1.below (al _ _), hJ.2.2.1.below (al _ _), hJ.2.2.2.1.below (al _ _), hJ.2.2.2.2.1.below (al _ _), bstep hJ.2.2.2.2.2 (Nat.le_of_lt hJ.1.lt) (al _ _)⟩ (al _ _) (pcs2 hJ.2.1.ks (strs_1 _) hJ.2.2.2.1.ks (strs_1 _))
    refine Inv.from_cons _ _ _ _ rfl (fun _ a w hJ hF F K hK => ?_) ?_
    · have hz : a.tmps.size = 44 := hF.size
      obtain ⟨x20, e20, f4⟩ : ∃ x, a.tmps[20]? = some x ∧ Pcs [strs na.keys, strs nb.keys] x w := ⟨_, Inv2.some_slot (by rw [hz]; exact Nat.le_of_ble_eq_true rfl) rfl, F 4 (by kernel_rfl) 20 rfl⟩
      clear F hF hz
      have hJ1 := hJ
      obtain ⟨⟨c0, c1, c2, c3, _⟩, _, ⟨d0, d1, d2, d3, _⟩, _, _, _⟩ := hJ1
      have hh := layO_s w _ _ f4 (by simp [strs]; have := HSA.out.k; have := HSB.out.k; omega) (by simp)
      obtain ⟨P, m, c, rfl⟩ := f4.form
      clear f4
      go_simp
      (with_reducible refine hh.mono ?_)
      rintro e w' ⟨A, m', c', rfl, hA, hb⟩
      go_simp
      exact hK _ _ ⟨hJ.1.below hb, hJ.2.1.below hb, hJ.2.2.1.below hb, hJ.2.2.2.1.below hb, hJ.2.2.2.2.1.below hb, bstep hJ.2.2.2.2.2 (Nat.le_of_lt hJ.1.lt) hb⟩ hb (by have h9 := hA.low (lo' := g + 3) (heap_lt hJ.2.2.2.2.1); simpa [strs] using h9)
    refine Inv.from_cons _ _ _ _ rfl (fun _ a w hJ hF F K hK => ?_) ?_
    · have hz : a.tmps.size = 44 := hF.size
      have e3 : a.tmps[3]? = some (.pointer (some ⟨g, 0, none⟩)) := Inv2.some_slot (by rw [hz]; exact Nat.le_of_ble_eq_true rfl) (hF.slot 3 (by kernel_rfl))
      clear F hF hz
      have hJ1 := hJ
      obtain ⟨⟨c0, c1, c2, c3, _⟩, _, ⟨d0, d1, d2, d3, _⟩, _, _, _⟩ := hJ1
      go_simp
      exact hK (.pointer (some ⟨g, 2, none⟩)) _ hJ (Below.refl _ _) rfl
    refine Inv.from_cons _ _ _ _ rfl (fun _ a w hJ hF F K hK => ?_) ?_
    · have hz : a.tmps.size = 44 := hF.size
      have e22 : a.tmps[22]? = some (.pointer (some ⟨g, 2, none⟩)) := Inv2.some_slot (by rw [hz]; exact Nat.le_of_ble_eq_true rfl) (F 6 (by kernel_rfl) 22 rfl)
      clear F hF hz
      have hJ1 := hJ
      obtain ⟨⟨c0, c1, c2, c3, _⟩, _, ⟨d0, d1, d2, d3, _⟩, _, _, _⟩ := hJ1
      go_simp
      exact hK (.slice ha.V na.vals.length ha.vc) _ hJ (Below.refl _ _) rfl
    refine Inv.from_cons _ _ _ _ rfl (fun _ a w hJ hF F K hK => ?_) ?_
    · have hz : a.tmps.size = 44 := hF.size
      have e5 : a.tmps[5]? = some (.pointer (some ⟨g + 1, 0, none⟩)) := Inv2.some_slot (by rw [hz]; exact Nat.le_of_ble_eq_true rfl) (hF.slot 5 (by kernel_rfl))
      clear F hF hz
      have hJ1 := hJ
      obtain ⟨⟨c0, c1, c2, c3, _⟩, _, ⟨d0, d1, d2, d3, _⟩, _, _, _⟩ := hJ1
      go_simp
      exact hK (.pointer (some ⟨g + 1, 2, none⟩)) _ hJ (Below.refl _ _) rfl
    refine Inv.from_cons _ _ _ _ rfl (fun _ a w hJ hF F K hK => ?_) ?_
    · have hz : a.tmps.size = 44 := hF.size
      have e24 : a.tmps[24]? = some (.pointer (some ⟨g + 1, 2, none⟩)) := Inv2.some_slot (by rw [hz]; exact Nat.le_of_ble_eq_true rfl) (F 8 (by kernel_rfl) 24 rfl)
      clear F hF hz
      have hJ1 := hJ
      obtain ⟨⟨c0, c1, c2, c3, _⟩, _, ⟨d0, d1, d2, d3, _⟩, _, _, _⟩ := hJ1
      go_simp
      exact hK (.slice hb.V nb.vals.length hb.vc) _ hJ (Below.refl _ _) rfl
    refine Inv.from_cons _ _ _ _ rfl (fun _ a w hJ hF F K hK => ?_) ?_
    · have hz : a.tmps.size = 44 := hF.size
      have e23 : a.tmps[23]? = some (.slice ha.V na.vals.length ha.vc) := Inv2.some_slot (by rw [hz]; exact Nat.le_of_ble_eq_true rfl) (F 7 (by kernel_rfl) 23 rfl)
      have e25 : a.tmps[25]? = some (.slice hb.V nb.vals.length hb.vc) := Inv2.some_slot (by rw [hz]; exact Nat.le_of_ble_eq_true rfl) (F 9 (by kernel_rfl) 25 rfl)
      clear F hF hz
      have hJ1 := hJ
      obtain ⟨⟨c0, c1, c2, c3, _⟩, _, ⟨d0, d1, d2, d3, _⟩, _, _, _⟩ := hJ1
      go_simp
      exact hK _ _ ⟨hJ.1.below (al _ _), hJ.2.1.below (al _ _), hJ.2.2.1.below (al _ _), hJ.2.2.2.1.below (al _ _), hJ.2.2.2.2.1.below (al _ _), bstep hJ.2.2.2.2.2 (Nat.le_of_lt hJ.1.lt) (al _ _)⟩ (al _ _) (pcs2 hJ.2.1.vs (strs_1 _) hJ.2.2.2.1.vs (strs_1 _))
    refine Inv.from_cons _ _ _ _ rfl (fun _ a w hJ hF F K hK => ?_) ?_
    · have hz : a.tmps.size = 44 := hF.size
      obtain ⟨x21, e21, f5⟩ : ∃ x, a.tmps[21]? = some x ∧ SlO (g + 3) (strs (na.keys ++ nb.keys)) x w := ⟨_, Inv2.some_slot (by rw [hz]; exact Nat.le_of_ble_eq_true rfl) rfl, F 5 (by kernel_rfl) 21 rfl⟩
      obtain ⟨x26, e26, f10⟩ : ∃ x, a.tmps[26]? = some x ∧ Pcs [strs na.vals, strs nb.vals] x w := ⟨_, Inv2.some_slot (by rw [hz]; exact Nat.le_of_ble_eq_true rfl) rfl, F 10 (by kernel_rfl) 26 rfl⟩
      clear F hF hz
      have hJ1 := hJ
      obtain ⟨⟨c0, c1, c2, c3, _⟩, _, ⟨d0, d1, d2, d3, _⟩, _, _, _⟩ := hJ1
      have hh := layO_s w _ _ f10 (by simp [strs]; have := HSA.out.v; have := HSB.out.v; omega) (by simp)
      obtain ⟨P, m, c, rfl⟩ := f10.form
      clear f10
      go_simp
      (with_reducible refine hh.mono ?_)
      rintro e w' ⟨A, m', c', rfl, hA, hb⟩
      go_simp
      exact hK _ _ ⟨hJ.1.below hb, hJ.2.1.below hb, hJ.2.2.1.below hb, hJ.2.2.2.1.below hb, hJ.2.2.2.2.1.below hb, bstep hJ.2.2.2.2.2 (Nat.le_of_lt hJ.1.lt) hb⟩ hb (by have h9 := hA.low (lo' := g + 3) (heap_lt hJ.2.2.2.2.1); simpa [strs] using h9)
    refine Inv.from_cons _ _ _ _ rfl (fun _ a w hJ hF F K hK => ?_) ?_
    · have hz : a.tmps.size = 44 := hF.size
      obtain ⟨x21, e21, f5⟩ : ∃ x, a.tmps[21]? = some x ∧ SlO (g + 3) (strs (na.keys ++ nb.keys)) x w := ⟨_, Inv2.some_slot (by rw [hz]; exact Nat.le_of_ble_eq_true rfl) rfl, F 5 (by kernel_rfl) 21 rfl⟩
      obtain ⟨x27, e27, f11⟩ : ∃ x, a.tmps[27]? = some x ∧ SlO (g + 3) (strs (na.vals ++ nb.vals)) x w := ⟨_, Inv2.some_slot (by rw [hz]; exact Nat.le_of_ble_eq_true rfl) rfl, F 11 (by kernel_rfl) 27 rfl⟩
      clear F hF hz
      have hJ1 := hJ
      obtain ⟨⟨c0, c1, c2, c3, _⟩, _, ⟨d0, d1, d2, d3, _⟩, _, _, _⟩ := hJ1
      have g5 := f5.form
      have g9 := f11.form
      obtain ⟨A1, m1, k1, rfl⟩ := g5
      obtain ⟨A2, m2, k2, rfl⟩ := g9
      go_simp
      exact hK _ _ hJ (Below.refl _ _) ⟨_, _, _, rfl, f5, f11, slo_none⟩
    refine Inv.from_skip _ _ _ _ rfl ?_
    exact Inv.from_end _ _ _ _ (by decide +kernel)
  · intro o ho a w hJ hF F K hK
    injection (show some _ = some o from ho) with ho
    subst ho
    obtain ⟨⟨l⟩, ds⟩ := a
    have hsz : l.length = 44 := hF.size
    obtain ⟨x0, x1, x2, x3, x4, x5, x6, x7, x8, x9, x10, x11, x12, x13, x14, x15, x16, x17, x18, x19, x20, x21, x22, x23, x24, x25, x26, x27, x28, x29, x30, x31, x32, x33, x34, x35, x36, x37, x38, x39, x40, x41, x42, x43, rfl⟩ := Lits.lit44 l hsz
    · skip
      obtain rfl : ds = [] := hF.defers
      obtain rfl : x1 = .string key := hF.slot 1 (by kernel_rfl)
      obtain rfl : x3 = .pointer (some ⟨g, 0, none⟩) := hF.slot 3 (by kernel_rfl)
      obtain rfl : x5 = .pointer (some ⟨g + 1, 0, none⟩) := hF.slot 5 (by kernel_rfl)
      obtain rfl : x6 = .pointer (some ⟨g + 1 + 1, 0, none⟩) := hF.slot 6 (by kernel_rfl)
      have f0 : x16 = .pointer (some ⟨g, 1, none⟩) := F 0 (by decide) 16 rfl
      have f1 : x17 = .slice ha.K na.keys.length ha.kc := F 1 (by decide) 17 rfl
      have f2 : x18 = .pointer (some ⟨g + 1, 1, none⟩) := F 2 (by decide) 18 rfl
      have f3 : x19 = .slice hb.K nb.keys.length hb.kc := F 3 (by decide) 19 rfl
      have f4 : Pcs [strs na.keys, strs nb.keys] x20 w := F 4 (by decide) 20 rfl
      have f5 : SlO (g + 3) (strs (na.keys ++ nb.keys)) x21 w := F 5 (by decide) 21 rfl
      have f6 : x22 = .pointer (some ⟨g, 2, none⟩) := F 6 (by decide) 22 rfl
      have f7 : x23 = .slice ha.V na.vals.length ha.vc := F 7 (by decide) 23 rfl
      have f8 : x24 = .pointer (some ⟨g + 1, 2, none⟩) := F 8 (by decide) 24 rfl
      have f9 : x25 = .slice hb.V nb.vals.length hb.vc := F 9 (by decide) 25 rfl
      have f10 : Pcs [strs na.vals, strs nb.vals] x26 w := F 10 (by decide) 26 rfl
      have f11 : SlO (g + 3) (strs (na.vals ++ nb.vals)) x27 w := F 11 (by decide) 27 rfl
      have f12 : NvO (g + 3) ⟨true, na.keys ++ nb.keys, na.vals ++ nb.vals, []⟩ x28 w := F 12 (by decide) 28 rfl
      subst f0
      subst f1
      subst f2
      subst f3
      subst f6
      subst f7
      subst f8
      subst f9
      clear F hF
      have hJ1 := hJ
      obtain ⟨⟨c0, c1, c2, c3, _⟩, _, ⟨d0, d1, d2, d3, _⟩, _, _, _⟩ := hJ1
      have hv := f12
      obtain ⟨x, y, z, rfl, fa, fb, fc⟩ := f12
      obtain ⟨A1, m1, k1, rfl⟩ := fa.form
      obtain ⟨A2, m2, k2, rfl⟩ := fb.form
      obtain ⟨A3, m3, k3, rfl⟩ := fc.form
      have hat := hJ.2.2.2.2.1
      obtain ⟨q0, q1, q2, q3, z0, z1, z2, z3⟩ := hat.f4
      clear fa fb fc
      have HV := Lib.hid (hv.st4 (g := g + 1 + 1) (a := .bool true) (b := .slice A1 m1 k1) (c := .slice A2 m2 k2) (d := .slice A3 m3 k3) (by omega)).nv
      have HA := Lib.hid (set4 hat (.bool true) (.slice A1 m1 k1) (.slice A2 m2 k2) (.slice A3 m3 k3))
      have HB := Lib.hid (below4 hJ.2.2.2.2.2 (show g ≤ g + 1 + 1 by omega) (.bool true) (.slice A1 m1 k1) (.slice A2 m2 k2) (.slice A3 m3 k3))
      clear hJ hv hat f5 f11 f4 f10 c0 c1 c2 c3 d0 d1 d2 d3
      go_simp
      refine hK _ _ ?_
      clear hK
      go_wp2_with fail
      refine bodyPost_ret (results_cell_row rfl _ _ (g + 1 + 1) 25 _ (0, 0) _ rfl HA.out Try.underlying25 rfl (by kernel_rfl)) rfl ?_
      exact ⟨_, rfl, HV.out, by rw [HG.out]; exact HB.out⟩
  · intro hq; exact absurd hq (by decide +kernel)

set_option maxRecDepth 100000 in
set_option maxHeartbeats 6400000 in
theorem join_branch (W : World) (na nb : Nd) (ha hb : Hd) (key : ByteArray) (la : Lay W na ha) (lb : Lay W nb hb) (sa : Small na) (sb : Small nb) (ea : na.leaf = false) (eb : nb.leaf = false) :
    Calls Try.prog 32 #[nv na ha, .string key, nv nb hb] W fun e w' => ∃ v, e = .returned v ∧ Nv ⟨false, na.keys ++ key :: nb.keys, [], na.kids ++ nb.kids⟩ v w' ∧ Below W.heap.size W w' := by
  have HSA := Lib.hid sa
  have HSB := Lib.hid sb
  have b1 := box_below W na ha
  have b2 := box_below (box W na ha) nb hb
  have b3 := al (box (box W na ha) nb hb) (.cells #[.bool false, .slice none 0 0, .slice none 0 0, .slice none 0 0] 25)
  have x1 := ((bx_new W na ha).below b2).below b3
  have x2 := (bx_new (box W na ha) nb hb).below b3
  have l1 := ((la.below b1).below b2).below b3
  have l2 := ((lb.below b1).below b2).below b3
  have at3 := at_new (box (box W na ha) nb hb) #[.bool false, .slice none 0 0, .slice none 0 0, .slice none 0 0] 25
  have s1 : (box W na ha).heap.size = W.heap.size + 1 := by simp
  have s2 : (box (box W na ha) nb hb).heap.size = W.heap.size + 1 + 1 := by simp
  rw [s1] at x2
  rw [s2] at at3
  have hB := Below.step (Below.step b1 b2) b3
  obtain ⟨w3, hw3⟩ : ∃ v, v = (box (box W na ha) nb hb).alloc (.cells #[.bool false, .slice none 0 0, .slice none 0 0, .slice none 0 0] 25) := ⟨_, rfl⟩
  rw [← hw3] at x1 x2 l1 l2 at3 hB
  unfold box at hw3
  rw [ea, eb] at hw3
  have HW3 := Lib.hid hw3
  clear hw3 b1 b2 b3 s1 s2 la lb sa sb
  go_enter Try.func32, Try.ntmps32
  go_wp2_with fail
  rw [← HW3.out]
  clear HW3
  generalize hg : W.heap.size = g at *
  have HG := Lib.hid hg
  clear hg
  have hJ0 : (fun w' : World => Bx w' g na ha ∧ Lay w' na ha ∧ Bx w' (g + 1) nb hb ∧ Lay w' nb hb ∧ At w' (g + 1 + 1) 25 #[.bool false, .slice none 0 0, .slice none 0 0, .slice none 0 0] ∧ Below g W w') (World.drew w3) := ⟨x1.below (Below.refl _ _).drew, l1.below (Below.refl _ _).drew, x2.below (Below.refl _ _).drew, l2.below (Below.refl _ _).drew, at3, hB.drew⟩
  clear x1 x2 l1 l2 at3 hB ea eb
  refine wp_region_any (by kernel_rfl) ?_
  change wpAny _ _ _ _ _ _ _ (World.drew _)
  refine Inv.inv_any (fun (i : Nat) (v : Value) (w : World) => match i with | 0 => v = .pointer (some ⟨g, 1, none⟩) | 1 => v = .slice ha.K na.keys.length ha.kc | 2 => v = .string key | 3 => SlA [.string key] v w | 4 => v = .pointer (some ⟨g + 1, 1, none⟩) | 5 => v = .slice hb.K nb.keys.length hb.kc | 6 => Pcs [strs na.keys, [.string key], strs nb.keys] v w | 7 => SlO (g + 3) (strs (na.keys ++ key :: nb.keys)) v w | 8 => v = .pointer (some ⟨g, 3, none⟩) | 9 => v = .slice ha.D na.kids.length ha.dc | 10 => v = .pointer (some ⟨g + 1, 3, none⟩) | 11 => v = .slice hb.D nb.kids.length hb.dc | 12 => Pcs [ints na.kids, ints nb.kids] v w | 13 => SlO (g + 3) (ints (na.kids ++ nb.kids)) v w | 14 => NvO (g + 3) ⟨false, na.keys ++ key :: nb.keys, [], na.kids ++ nb.kids⟩ v w | _ => True) (fun w' : World => Bx w' g na ha ∧ Lay w' na ha ∧ Bx w' (g + 1) nb hb ∧ Lay w' nb hb ∧ At w' (g + 1 + 1) 25 #[.bool false, .slice none 0 0, .slice none 0 0, .slice none 0 0] ∧ Below g W w') _ 15 44 rfl rfl rfl (by kernel_rfl) (by kernel_rfl) hJ0 ?_ ?_ ?_ ?_
  · intro j v w w' h hb
    match j, h with
    | 0, h => exact h
    | 1, h => exact h
    | 2, h => exact h
    | 3, h => exact SlA.below h hb
    | 4, h => exact h
    | 5, h => exact h
    | 6, h => exact Pcs.below h hb
    | 7, h => exact SlO.below h hb
    | 8, h => exact h
    | 9, h => exact h
    | 10, h => exact h
    | 11, h => exact h
    | 12, h => exact Pcs.below h hb
    | 13, h => exact SlO.below h hb
    | 14, h => exact NvO.below h hb
    | 15, _ => exact trivial
    | (_ + 16), _ => exact trivial
  · skip
    refine Inv.from_cons _ _ _ _ rfl (fun _ a w hJ hF F K hK => ?_) ?_
    · have hz : a.tmps.size = 44 := hF.size
      have e3 : a.tmps[3]? = some (.pointer (some ⟨g, 0, none⟩)) := Inv2.some_slot (by rw [hz]; exact Nat.le_of_ble_eq_true rfl) (hF.slot 3 (by kernel_rfl))
      clear F hF hz
      have hJ1 := hJ
      obtain ⟨⟨c0, c1, c2, c3, _⟩, _, ⟨d0, d1, d2, d3, _⟩, _, _, _⟩ := hJ1
      go_simp
      exact hK (.pointer (some ⟨g, 1, none⟩)) _ hJ (Below.refl _ _) rfl
    refine Inv.from_cons _ _ _ _ rfl (fun _ a w hJ hF F K hK => ?_) ?_
    · have hz : a.tmps.size = 44 := hF.size
      have e29 : a.tmps[29]? = some (.pointer (some ⟨g, 1, none⟩)) := Inv2.some_slot (by rw [hz]; exact Nat.le_of_ble_eq_true rfl) (F 0 (by kernel_rfl) 29 rfl)
      clear F hF hz
      have hJ1 := hJ
      obtain ⟨⟨c0, c1, c2, c3, _⟩, _, ⟨d0, d1, d2, d3, _⟩, _, _, _⟩ := hJ1
      go_simp
      exact hK (.slice ha.K na.keys.length ha.kc) _ hJ (Below.refl _ _) rfl
    refine Inv.from_cons _ _ _ _ rfl (fun _ a w hJ hF F K hK => ?_) ?_
    · have hz : a.tmps.size = 44 := hF.size
      have e1 : a.tmps[1]? = some (.string key) := Inv2.some_slot (by rw [hz]; exact Nat.le_of_ble_eq_true rfl) (hF.slot 1 (by kernel_rfl))
      clear F hF hz
      have hJ1 := hJ
      obtain ⟨⟨c0, c1, c2, c3, _⟩, _, ⟨d0, d1, d2, d3, _⟩, _, _, _⟩ := hJ1
      go_simp
      exact hK (.string key) _ hJ (Below.refl _ _) rfl
    refine Inv.from_cons _ _ _ _ rfl (fun _ a w hJ hF F K hK => ?_) ?_
    · have hz : a.tmps.size = 44 := hF.size
      have e31 : a.tmps[31]? = some (.string key) := Inv2.some_slot (by rw [hz]; exact Nat.le_of_ble_eq_true rfl) (F 2 (by kernel_rfl) 31 rfl)
      clear F hF hz
      have hJ1 := hJ
      obtain ⟨⟨c0, c1, c2, c3, _⟩, _, ⟨d0, d1, d2, d3, _⟩, _, _, _⟩ := hJ1
      go_simp
      exact hK _ _ ⟨hJ.1.below (al _ _), hJ.2.1.below (al _ _), hJ.2.2.1.below (al _ _), hJ.2.2.2.1.below (al _ _), hJ.2.2.2.2.1.below (al _ _), bstep hJ.2.2.2.2.2 (Nat.le_of_lt hJ.1.lt) (al _ _)⟩ (al _ _) (sl_new _)
    refine Inv.from_cons _ _ _ _ rfl (fun _ a w hJ hF F K hK => ?_) ?_
    · have hz : a.tmps.size = 44 := hF.size
      have e5 : a.tmps[5]? = some (.pointer (some ⟨g + 1, 0, none⟩)) := Inv2.some_slot (by rw [hz]; exact Nat.le_of_ble_eq_true rfl) (hF.slot 5 (by kernel_rfl))
      clear F hF hz
      have hJ1 := hJ
      obtain ⟨⟨c0, c1, c2, c3, _⟩, _, ⟨d0, d1, d2, d3, _⟩, _, _, _⟩ := hJ1
      go_simp
      exact hK (.pointer (some ⟨g + 1, 1, none⟩)) _ hJ (Below.refl _ _) rfl
    refine Inv.from_cons _ _ _ _ rfl (fun _ a w hJ hF F K hK => ?_) ?_
    · have hz : a.tmps.size = 44 := hF.size
      have e33 : a.tmps[33]? = some (.pointer (some ⟨g + 1, 1, none⟩)) := Inv2.some_slot (by rw [hz]; exact Nat.le_of_ble_eq_true rfl) (F 4 (by kernel_rfl) 33 rfl)
      clear F hF hz
      have hJ1 := hJ
      obtain ⟨⟨c0, c1, c2, c3, _⟩, _, ⟨d0, d1, d2, d3, _⟩, _, _, _⟩ := hJ1
      go_simp
      exact hK (.slice hb.K nb.keys.length hb.kc) _ hJ (Below.refl _ _) rfl
    refine Inv.from_cons _ _ _ _ rfl (fun _ a w hJ hF F K hK => ?_) ?_
    · have hz : a.tmps.size = 44 := hF.size
      have e30 : a.tmps[30]? = some (.slice ha.K na.keys.length ha.kc) := Inv2.some_slot (by rw [hz]; exact Nat.le_of_ble_eq_true rfl) (F 1 (by kernel_rfl) 30 rfl)
      obtain ⟨x32, e32, f3⟩ : ∃ x, a.tmps[32]? = some x ∧ SlA [.string key] x w := ⟨_, Inv2.some_slot (by rw [hz]; exact Nat.le_of_ble_eq_true rfl) rfl, F 3 (by kernel_rfl) 32 rfl⟩
      have e34 : a.tmps[34]? = some (.slice hb.K nb.keys.length hb.kc) := Inv2.some_slot (by rw [hz]; exact Nat.le_of_ble_eq_true rfl) (F 5 (by kernel_rfl) 34 rfl)
      clear F hF hz
      have hJ1 := hJ
      obtain ⟨⟨c0, c1, c2, c3, _⟩, _, ⟨d0, d1, d2, d3, _⟩, _, _, _⟩ := hJ1
      have g3 := f3.form
      obtain ⟨A1, m1, k1, rfl⟩ := g3
      go_simp
      exact hK _ _ ⟨hJ.1.below (al _ _), hJ.2.1.below (al _ _), hJ.2.2.1.below (al _ _), hJ.2.2.2.1.below (al _ _), hJ.2.2.2.2.1.below (al _ _), bstep hJ.2.2.2.2.2 (Nat.le_of_lt hJ.1.lt) (al _ _)⟩ (al _ _) (pcs3 hJ.2.1.ks (strs_1 _) f3 (by intro u hu; simp at hu; subst hu; rfl) hJ.2.2.2.1.ks (strs_1 _))
    refine Inv.from_cons _ _ _ _ rfl (fun _ a w hJ hF F K hK => ?_) ?_
    · have hz : a.tmps.size = 44 := hF.size
      obtain ⟨x35, e35, f6⟩ : ∃ x, a.tmps[35]? = some x ∧ Pcs [strs na.keys, [.string key], strs nb.keys] x w := ⟨_, Inv2.some_slot (by rw [hz]; exact Nat.le_of_ble_eq_true rfl) rfl, F 6 (by kernel_rfl) 35 rfl⟩
      clear F hF hz
      have hJ1 := hJ
      obtain ⟨⟨c0, c1, c2, c3, _⟩, _, ⟨d0, d1, d2, d3, _⟩, _, _, _⟩ := hJ1
      have hh := layO_s w _ _ f6 (by simp [strs]; have := HSA.out.k; have := HSB.out.k; omega) (by simp)
      obtain ⟨P, m, c, rfl⟩ := f6.form
      clear f6
      go_simp
      (with_reducible refine hh.mono ?_)
      rintro e w' ⟨A, m', c', rfl, hA, hb⟩
      go_simp
      exact hK _ _ ⟨hJ.1.below hb, hJ.2.1.below hb, hJ.2.2.1.below hb, hJ.2.2.2.1.below hb, hJ.2.2.2.2.1.below hb, bstep hJ.2.2.2.2.2 (Nat.le_of_lt hJ.1.lt) hb⟩ hb (by have h9 := hA.low (lo' := g + 3) (heap_lt hJ.2.2.2.2.1); simpa [strs] using h9)
    refine Inv.from_cons _ _ _ _ rfl (fun _ a w hJ hF F K hK => ?_) ?_
    · have hz : a.tmps.size = 44 := hF.size
      have e3 : a.tmps[3]? = some (.pointer (some ⟨g, 0, none⟩)) := Inv2.some_slot (by rw [hz]; exact Nat.le_of_ble_eq_true rfl) (hF.slot 3 (by kernel_rfl))
      clear F hF hz
      have hJ1 := hJ
      obtain ⟨⟨c0, c1, c2, c3, _⟩, _, ⟨d0, d1, d2, d3, _⟩, _, _, _⟩ := hJ1
      go_simp
      exact hK (.pointer (some ⟨g, 3, none⟩)) _ hJ (Below.refl _ _) rfl
    refine Inv.from_cons _ _ _ _ rfl (fun _ a w hJ hF F K hK => ?_) ?_
    · have hz : a.tmps.size = 44 := hF.size
      have e37 : a.tmps[37]? = some (.pointer (some ⟨g, 3, none⟩)) := Inv2.some_slot (by rw [hz]; exact Nat.le_of_ble_eq_true rfl) (F 8 (by kernel_rfl) 37 rfl)
      clear F hF hz
      have hJ1 := hJ
      obtain ⟨⟨c0, c1, c2, c3, _⟩, _, ⟨d0, d1, d2, d3, _⟩, _, _, _⟩ := hJ1
      go_simp
      exact hK (.slice ha.D na.kids.length ha.dc) _ hJ (Below.refl _ _) rfl
    refine Inv.from_cons _ _ _ _ rfl (fun _ a w hJ hF F K hK => ?_) ?_
    · have hz : a.tmps.size = 44 := hF.size
      have e5 : a.tmps[5]? = some (.pointer (some ⟨g + 1, 0, none⟩)) := Inv2.some_slot (by rw [hz]; exact Nat.le_of_ble_eq_true rfl) (hF.slot 5 (by kernel_rfl))
      clear F hF hz
      have hJ1 := hJ
      obtain ⟨⟨c0, c1, c2, c3, _⟩, _, ⟨d0, d1, d2, d3, _⟩, _, _, _⟩ := hJ1
      go_simp
      exact hK (.pointer (some ⟨g + 1, 3, none⟩)) _ hJ (Below.refl _ _) rfl
    refine Inv.from_cons _ _ _ _ rfl (fun _ a w hJ hF F K hK => ?_) ?_
    · have hz : a.tmps.size = 44 := hF.size
      have e39 : a.tmps[39]? = some (.pointer (some ⟨g + 1, 3, none⟩)) := Inv2.some_slot (by rw [hz]; exact Nat.le_of_ble_eq_true rfl) (F 10 (by kernel_rfl) 39 rfl)
      clear F hF hz
      have hJ1 := hJ
      obtain ⟨⟨c0, c1, c2, c3, _⟩, _, ⟨d0, d1, d2, d3, _⟩, _, _, _⟩ := hJ1
      go_simp
      exact hK (.slice hb.D nb.kids.length hb.dc) _ hJ (Below.refl _ _) rfl
    refine Inv.from_cons _ _ _ _ rfl (fun _ a w hJ hF F K hK => ?_) ?_
    · have hz : a.tmps.size = 44 := hF.size
      have e38 : a.tmps[38]? = some (.slice ha.D na.kids.length ha.dc) := Inv2.some_slot (by rw [hz]; exact Nat.le_of_ble_eq_true rfl) (F 9 (by kernel_rfl) 38 rfl)
      have e40 : a.tmps[40]? = some (.slice hb.D nb.kids.length hb.dc) := Inv2.some_slot (by rw [hz]; exact Nat.le_of_ble_eq_true rfl) (F 11 (by kernel_rfl) 40 rfl)
      clear F hF hz
      have hJ1 := hJ
      obtain ⟨⟨c0, c1, c2, c3, _⟩, _, ⟨d0, d1, d2, d3, _⟩, _, _, _⟩ := hJ1
      go_simp
      exact hK _ _ ⟨hJ.1.below (al _ _), hJ.2.1.below (al _ _), hJ.2.2.1.below (al _ _), hJ.2.2.2.1.below (al _ _), hJ.2.2.2.2.1.below (al _ _), bstep hJ.2.2.2.2.2 (Nat.le_of_lt hJ.1.lt) (al _ _)⟩ (al _ _) (pcs2 hJ.2.1.ds (ints_1 _) hJ.2.2.2.1.ds (ints_1 _))
    refine Inv.from_cons _ _ _ _ rfl (fun _ a w hJ hF F K hK => ?_) ?_
    · have hz : a.tmps.size = 44 := hF.size
      obtain ⟨x36, e36, f7⟩ : ∃ x, a.tmps[36]? = some x ∧ SlO (g + 3) (strs (na.keys ++ key :: nb.keys)) x w := ⟨_, Inv2.some_slot (by rw [hz]; exact Nat.le_of_ble_eq_true rfl) rfl, F 7 (by kernel_rfl) 36 rfl⟩
      obtain ⟨x41, e41, f12⟩ : ∃ x, a.tmps[41]? = some x ∧ Pcs [ints na.kids, ints nb.kids] x w := ⟨_, Inv2.some_slot (by rw [hz]; exact Nat.le_of_ble_eq_true rfl) rfl, F 12 (by kernel_rfl) 41 rfl⟩
      clear F hF hz
      have hJ1 := hJ
      obtain ⟨⟨c0, c1, c2, c3, _⟩, _, ⟨d0, d1, d2, d3, _⟩, _, _, _⟩ := hJ1
      have hh := layO_i w _ _ f12 (by simp [ints]; have := HSA.out.d; have := HSB.out.d; omega) (by simp)
      obtain ⟨P, m, c, rfl⟩ := f12.form
      clear f12
      go_simp
      (with_reducible refine hh.mono ?_)
      rintro e w' ⟨A, m', c', rfl, hA, hb⟩
      go_simp
      exact hK _ _ ⟨hJ.1.below hb, hJ.2.1.below hb, hJ.2.2.1.below hb, hJ.2.2.2.1.below hb, hJ.2.2.2.2.1.below hb, bstep hJ.2.2.2.2.2 (Nat.le_of_lt hJ.1.lt) hb⟩ hb (by have h9 := hA.low (lo' := g + 3) (heap_lt hJ.2.2.2.2.1); simpa [ints] using h9)
    refine Inv.from_cons _ _ _ _ rfl (fun _ a w hJ hF F K hK => ?_) ?_
    · have hz : a.tmps.size = 44 := hF.size
      obtain ⟨x36, e36, f7⟩ : ∃ x, a.tmps[36]? = some x ∧ SlO (g + 3) (strs (na.keys ++ key :: nb.keys)) x w := ⟨_, Inv2.some_slot (by rw [hz]; exact Nat.le_of_ble_eq_true rfl) rfl, F 7 (by kernel_rfl) 36 rfl⟩
      obtain ⟨x42, e42, f13⟩ : ∃ x, a.tmps[42]? = some x ∧ SlO (g + 3) (ints (na.kids ++ nb.kids)) x w := ⟨_, Inv2.some_slot (by rw [hz]; exact Nat.le_of_ble_eq_true rfl) rfl, F 13 (by kernel_rfl) 42 rfl⟩
      clear F hF hz
      have hJ1 := hJ
      obtain ⟨⟨c0, c1, c2, c3, _⟩, _, ⟨d0, d1, d2, d3, _⟩, _, _, _⟩ := hJ1
      have g5 := f7.form
      have g9 := f13.form
      obtain ⟨A1, m1, k1, rfl⟩ := g5
      obtain ⟨A2, m2, k2, rfl⟩ := g9
      go_simp
      exact hK _ _ hJ (Below.refl _ _) ⟨_, _, _, rfl, f7, slo_none, f13⟩
    refine Inv.from_skip _ _ _ _ rfl ?_
    exact Inv.from_end _ _ _ _ (by decide +kernel)
  · intro o ho a w hJ hF F K hK
    injection (show some _ = some o from ho) with ho
    subst ho
    obtain ⟨⟨l⟩, ds⟩ := a
    have hsz : l.length = 44 := hF.size
    obtain ⟨x0, x1, x2, x3, x4, x5, x6, x7, x8, x9, x10, x11, x12, x13, x14, x15, x16, x17, x18, x19, x20, x21, x22, x23, x24, x25, x26, x27, x28, x29, x30, x31, x32, x33, x34, x35, x36, x37, x38, x39, x40, x41, x42, x43, rfl⟩ := Lits.lit44 l hsz
    · skip
      obtain rfl : ds = [] := hF.defers
      obtain rfl : x1 = .string key := hF.slot 1 (by kernel_rfl)
      obtain rfl : x3 = .pointer (some ⟨g, 0, none⟩) := hF.slot 3 (by kernel_rfl)
      obtain rfl : x5 = .pointer (some ⟨g + 1, 0, none⟩) := hF.slot 5 (by kernel_rfl)
      obtain rfl : x6 = .pointer (some ⟨g + 1 + 1, 0, none⟩) := hF.slot 6 (by kernel_rfl)
      have f0 : x29 = .pointer (some ⟨g, 1, none⟩) := F 0 (by decide) 29 rfl
      have f1 : x30 = .slice ha.K na.keys.length ha.kc := F 1 (by decide) 30 rfl
      have f2 : x31 = .string key := F 2 (by decide) 31 rfl
      have f3 : SlA [.string key] x32 w := F 3 (by decide) 32 rfl
      have f4 : x33 = .pointer (some ⟨g + 1, 1, none⟩) := F 4 (by decide) 33 rfl
      have f5 : x34 = .slice hb.K nb.keys.length hb.kc := F 5 (by decide) 34 rfl
      have f6 : Pcs [strs na.keys, [.string key], strs nb.keys] x35 w := F 6 (by decide) 35 rfl
      have f7 : SlO (g + 3) (strs (na.keys ++ key :: nb.keys)) x36 w := F 7 (by decide) 36 rfl
      have f8 : x37 = .pointer (some ⟨g, 3, none⟩) := F 8 (by decide) 37 rfl
      have f9 : x38 = .slice ha.D na.kids.length ha.dc := F 9 (by decide) 38 rfl
      have f10 : x39 = .pointer (some ⟨g + 1, 3, none⟩) := F 10 (by decide) 39 rfl
      have f11 : x40 = .slice hb.D nb.kids.length hb.dc := F 11 (by decide) 40 rfl
      have f12 : Pcs [ints na.kids, ints nb.kids] x41 w := F 12 (by decide) 41 rfl
      have f13 : SlO (g + 3) (ints (na.kids ++ nb.kids)) x42 w := F 13 (by decide) 42 rfl
      have f14 : NvO (g + 3) ⟨false, na.keys ++ key :: nb.keys, [], na.kids ++ nb.kids⟩ x43 w := F 14 (by decide) 43 rfl
      subst f0
      subst f1
      subst f2
      subst f4
      subst f5
      subst f8
      subst f9
      subst f10
      subst f11
      clear F hF
      have hJ1 := hJ
      obtain ⟨⟨c0, c1, c2, c3, _⟩, _, ⟨d0, d1, d2, d3, _⟩, _, _, _⟩ := hJ1
      have hv := f14
      obtain ⟨x, y, z, rfl, fa, fb, fc⟩ := f14
      obtain ⟨A1, m1, k1, rfl⟩ := fa.form
      obtain ⟨A2, m2, k2, rfl⟩ := fb.form
      obtain ⟨A3, m3, k3, rfl⟩ := fc.form
      have hat := hJ.2.2.2.2.1
      obtain ⟨q0, q1, q2, q3, z0, z1, z2, z3⟩ := hat.f4
      clear fa fb fc
      have HV := Lib.hid (hv.st4 (g := g + 1 + 1) (a := .bool false) (b := .slice A1 m1 k1) (c := .slice A2 m2 k2) (d := .slice A3 m3 k3) (by omega)).nv
      have HA := Lib.hid (set4 hat (.bool false) (.slice A1 m1 k1) (.slice A2 m2 k2) (.slice A3 m3 k3))
      have HB := Lib.hid (below4 hJ.2.2.2.2.2 (show g ≤ g + 1 + 1 by omega) (.bool false) (.slice A1 m1 k1) (.slice A2 m2 k2) (.slice A3 m3 k3))
      clear hJ hv hat f3 f6 f7 f12 f13 c0 c1 c2 c3 d0 d1 d2 d3
      go_simp
      refine hK _ _ ?_
      clear hK
      go_wp2_with fail
      refine bodyPost_ret (results_cell_row rfl _ _ (g + 1 + 1) 25 _ (0, 0) _ rfl HA.out Try.underlying25 rfl (by kernel_rfl)) rfl ?_
      exact ⟨_, rfl, HV.out, by rw [HG.out]; exact HB.out⟩
  · intro hq; exact absurd hq (by decide +kernel)

set_option maxRecDepth 100000 in
set_option maxHeartbeats 6400000 in
theorem join_tf (W : World) (na nb : Nd) (ha hb : Hd) (key : ByteArray) (la : Lay W na ha) (lb : Lay W nb hb) (sa : Small na) (sb : Small nb) (ea : na.leaf = true) (eb : nb.leaf = false) :
    Calls Try.prog 32 #[nv na ha, .string key, nv nb hb] W fun e w' => ∃ v, e = .returned v ∧ Nv na v w' ∧ Below W.heap.size W w' := by
  have HSA := Lib.hid sa
  have HSB := Lib.hid sb
  have b1 := box_below W na ha
  have b2 := box_below (box W na ha) nb hb
  have b3 := al (box (box W na ha) nb hb) (.cells #[.bool false, .slice none 0 0, .slice none 0 0, .slice none 0 0] 25)
  have x1 := ((bx_new W na ha).below b2).below b3
  have x2 := (bx_new (box W na ha) nb hb).below b3
  have l1 := ((la.below b1).below b2).below b3
  have l2 := ((lb.below b1).below b2).below b3
  have at3 := at_new (box (box W na ha) nb hb) #[.bool false, .slice none 0 0, .slice none 0 0, .slice none 0 0] 25
  have s1 : (box W na ha).heap.size = W.heap.size + 1 := by simp
  have s2 : (box (box W na ha) nb hb).heap.size = W.heap.size + 1 + 1 := by simp
  rw [s1] at x2
  rw [s2] at at3
  have hB := Below.step (Below.step b1 b2) b3
  obtain ⟨w3, hw3⟩ : ∃ v, v = (box (box W na ha) nb hb).alloc (.cells #[.bool false, .slice none 0 0, .slice none 0 0, .slice none 0 0] 25) := ⟨_, rfl⟩
  rw [← hw3] at x1 x2 l1 l2 at3 hB
  unfold box at hw3
  rw [ea, eb] at hw3
  have hc := copied_o w3 na ha l1 sa
  unfold nv at hc
  rw [ea] at hc
  have q0 := x1.c0
  have q1 := x1.c1
  have q2 := x1.c2
  have q3 := x1.c3
  have r0 := x2.c0
  rw [ea] at q0
  rw [eb] at r0
  have HW3 := Lib.hid hw3
  clear b1 b2 b3 s1 s2 la lb sa sb x1 x2 l1 l2 q0 q1 q2 q3 r0
  have EA := Lib.hid ea
  rw [hw3] at hc
  clear hw3
  go_enter Try.func32, Try.ntmps32
  go_wp2_with fail
  refine hc.mono ?_
  rintro e w4 ⟨v, rfl, hv, hb4⟩
  clear hc
  rw [← HW3.out] at hb4 hv
  clear HW3
  have at4 := at3.below hb4
  have hb5 := bstep hB hB.size hb4
  have hv9 := hv.low (lo' := W.heap.size + 3) (heap_lt at3)
  obtain ⟨x, y, z, rfl, fa, fb, fc⟩ := hv
  obtain ⟨A1, m1, k1, rfl⟩ := fa.form
  obtain ⟨A2, m2, k2, rfl⟩ := fb.form
  obtain ⟨A3, m3, k3, rfl⟩ := fc.form
  clear fa fb fc at3 hB hb4
  rw [EA.out] at hv9
  obtain ⟨z0, z1, z2, z3, y0, y1, y2, y3⟩ := at4.f4
  have HV := Lib.hid (hv9.st4 (g := W.heap.size + 1 + 1) (a := .bool true) (b := .slice A1 m1 k1) (c := .slice A2 m2 k2) (d := .slice A3 m3 k3) (by omega)).nv
  have HA := Lib.hid (set4 at4 (.bool true) (.slice A1 m1 k1) (.slice A2 m2 k2) (.slice A3 m3 k3))
  have HB := Lib.hid (below4 hb5 (show W.heap.size ≤ W.heap.size + 1 + 1 by omega) (.bool true) (.slice A1 m1 k1) (.slice A2 m2 k2) (.slice A3 m3 k3))
  clear hv9 at4 hb5
  go_wp2_with fail
  refine bodyPost_ret (results_cell_row rfl _ _ (W.heap.size + 1 + 1) 25 _ (0, 0) _ rfl HA.out Try.underlying25 rfl (by kernel_rfl)) rfl ?_
  exact ⟨_, rfl, HV.out, HB.out⟩

set_option maxRecDepth 100000 in
set_option maxHeartbeats 6400000 in
theorem join_ft (W : World) (na nb : Nd) (ha hb : Hd) (key : ByteArray) (la : Lay W na ha) (lb : Lay W nb hb) (sa : Small na) (sb : Small nb) (ea : na.leaf = false) (eb : nb.leaf = true) :
    Calls Try.prog 32 #[nv na ha, .string key, nv nb hb] W fun e w' => ∃ v, e = .returned v ∧ Nv na v w' ∧ Below W.heap.size W w' := by
  have HSA := Lib.hid sa
  have HSB := Lib.hid sb
  have b1 := box_below W na ha
  have b2 := box_below (box W na ha) nb hb
  have b3 := al (box (box W na ha) nb hb) (.cells #[.bool false, .slice none 0 0, .slice none 0 0, .slice none 0 0] 25)
  have x1 := ((bx_new W na ha).below b2).below b3
  have x2 := (bx_new (box W na ha) nb hb).below b3
  have l1 := ((la.below b1).below b2).below b3
  have l2 := ((lb.below b1).below b2).below b3
  have at3 := at_new (box (box W na ha) nb hb) #[.bool false, .slice none 0 0, .slice none 0 0, .slice none 0 0] 25
  have s1 : (box W na ha).heap.size = W.heap.size + 1 := by simp
  have s2 : (box (box W na ha) nb hb).heap.size = W.heap.size + 1 + 1 := by simp
  rw [s1] at x2
  rw [s2] at at3
  have hB := Below.step (Below.step b1 b2) b3
  obtain ⟨w3, hw3⟩ : ∃ v, v = (box (box W na ha) nb hb).alloc (.cells #[.bool false, .slice none 0 0, .slice none 0 0, .slice none 0 0] 25) := ⟨_, rfl⟩
  rw [← hw3] at x1 x2 l1 l2 at3 hB
  unfold box at hw3
  rw [ea, eb] at hw3
  have hc := copied_o w3 na ha l1 sa
  unfold nv at hc
  rw [ea] at hc
  have q0 := x1.c0
  have q1 := x1.c1
  have q2 := x1.c2
  have q3 := x1.c3
  have r0 := x2.c0
  rw [ea] at q0
  rw [eb] at r0
  have HW3 := Lib.hid hw3
  clear b1 b2 b3 s1 s2 la lb sa sb x1 x2 l1 l2 q0 q1 q2 q3 r0
  have EA := Lib.hid ea
  rw [hw3] at hc
  clear hw3
  go_enter Try.func32, Try.ntmps32
  go_wp2_with fail
  refine hc.mono ?_
  rintro e w4 ⟨v, rfl, hv, hb4⟩
  clear hc
  rw [← HW3.out] at hb4 hv
  clear HW3
  have at4 := at3.below hb4
  have hb5 := bstep hB hB.size hb4
  have hv9 := hv.low (lo' := W.heap.size + 3) (heap_lt at3)
  obtain ⟨x, y, z, rfl, fa, fb, fc⟩ := hv
  obtain ⟨A1, m1, k1, rfl⟩ := fa.form
  obtain ⟨A2, m2, k2, rfl⟩ := fb.form
  obtain ⟨A3, m3, k3, rfl⟩ := fc.form
  clear fa fb fc at3 hB hb4
  rw [EA.out] at hv9
  obtain ⟨z0, z1, z2, z3, y0, y1, y2, y3⟩ := at4.f4
  have HV := Lib.hid (hv9.st4 (g := W.heap.size + 1 + 1) (a := .bool false) (b := .slice A1 m1 k1) (c := .slice A2 m2 k2) (d := .slice A3 m3 k3) (by omega)).nv
  have HA := Lib.hid (set4 at4 (.bool false) (.slice A1 m1 k1) (.slice A2 m2 k2) (.slice A3 m3 k3))
  have HB := Lib.hid (below4 hb5 (show W.heap.size ≤ W.heap.size + 1 + 1 by omega) (.bool false) (.slice A1 m1 k1) (.slice A2 m2 k2) (.slice A3 m3 k3))
  clear hv9 at4 hb5
  go_wp2_with fail
  refine bodyPost_ret (results_cell_row rfl _ _ (W.heap.size + 1 + 1) 25 _ (0, 0) _ rfl HA.out Try.underlying25 rfl (by kernel_rfl)) rfl ?_
  exact ⟨_, rfl, HV.out, HB.out⟩
end Go.Proofs.Ytpcpfcllgadghaa.NodeJoin
