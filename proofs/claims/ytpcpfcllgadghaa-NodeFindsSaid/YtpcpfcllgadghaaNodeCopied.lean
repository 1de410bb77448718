/- The contract of copied. -/
import Derived.Test.YtpcpfcllgadghaaNodeBox
namespace Go.Proofs.Ytpcpfcllgadghaa.NodeCopied
open Go.RowKit Base NodePlain NodeRead NodeSlice NodeCheck NodeBox

set_option maxRecDepth 100000 in
set_option maxHeartbeats 3200000 in
theorem copied_o (W : World) (n : Nd) (h : Hd) (hl : Lay W n h) (hs : Small n) :
    Calls Try.prog 48 #[nv n h] W fun e w' => ∃ v, e = .returned v ∧ NvO W.heap.size n v w' ∧ Below W.heap.size W w' := by
  have HS := Lib.hid hs
  have hb1 := box_below W n h
  have hbx := bx_new W n h
  have b2 := al (box W n h) (.cells #[.bool false, .slice none 0 0, .slice none 0 0, .slice none 0 0] 25)
  have hat : At ((box W n h).alloc (.cells #[.bool false, .slice none 0 0, .slice none 0 0, .slice none 0 0] 25)) (W.heap.size + 1) 25 #[.bool false, .slice none 0 0, .slice none 0 0, .slice none 0 0] := by
    have := heap_alloc_new (box W n h) (.cells #[.bool false, .slice none 0 0, .slice none 0 0, .slice none 0 0] 25)
    simpa [At, box] using this
  have HJ := Lib.hid (show Bx (World.drew ((box W n h).alloc (.cells #[.bool false, .slice none 0 0, .slice none 0 0, .slice none 0 0] 25))) W.heap.size n h ∧ Lay (World.drew ((box W n h).alloc (.cells #[.bool false, .slice none 0 0, .slice none 0 0, .slice none 0 0] 25))) n h ∧ At (World.drew ((box W n h).alloc (.cells #[.bool false, .slice none 0 0, .slice none 0 0, .slice none 0 0] 25))) (W.heap.size + 1) 25 #[.bool false, .slice none 0 0, .slice none 0 0, .slice none 0 0] ∧ Below W.heap.size W (World.drew ((box W n h).alloc (.cells #[.bool false, .slice none 0 0, .slice none 0 0, .slice none 0 0] 25))) from
    ⟨(hbx.below b2).below (Below.refl _ _).drew, ((hl.below hb1).below b2).below (Below.refl _ _).drew, hat, (Below.step hb1 b2).drew⟩)
  clear hb1 hbx b2 hat hs hl
  go_enter Try.func48, Try.ntmps48
  go_wp2_with fail
  have hJ0 := HJ.out
  clear HJ
  dsimp only [box] at hJ0
  generalize hg : W.heap.size = g at *
  have HG := Lib.hid hg
  clear hg
  refine wp_region_any (by kernel_rfl) ?_
  change wpAny _ _ _ _ _ _ _ (World.drew _)
  refine Inv.inv_any (fun (i : Nat) (v : Value) (w : World) => match i with | 0 => v = .pointer (some ⟨g, 0, none⟩) | 1 => v = .bool n.leaf | 2 => v = .pointer (some ⟨g, 1, none⟩) | 3 => v = .slice h.K n.keys.length h.kc | 4 => Pcs [strs n.keys] v w | 5 => SlO (g + 2) (strs n.keys) v w | 6 => v = .pointer (some ⟨g, 2, none⟩) | 7 => v = .slice h.V n.vals.length h.vc | 8 => Pcs [strs n.vals] v w | 9 => SlO (g + 2) (strs n.vals) v w | 10 => v = .pointer (some ⟨g, 3, none⟩) | 11 => v = .slice h.D n.kids.length h.dc | 12 => Pcs [ints n.kids] v w | 13 => SlO (g + 2) (ints n.kids) v w | 14 => NvO (g + 2) n v w | _ => True) (fun w' : World => Bx w' g n h ∧ Lay w' n h ∧ At w' (g + 1) 25 #[.bool false, .slice none 0 0, .slice none 0 0, .slice none 0 0] ∧ Below g W w') _ 15 18 rfl rfl rfl (by kernel_rfl) (by kernel_rfl) hJ0 ?_ ?_ ?_ ?_
  · intro j v w w' h hb
    match j, h with
    | 0, h => exact h
    | 1, h => exact h
    | 2, h => exact h
    | 3, h => exact h
    | 4, h => exact Pcs.below h hb
    | 5, h => exact SlO.below h hb
    | 6, h => exact h
    | 7, h => exact h
    | 8, h => exact Pcs.below h hb
    | 9, h => exact SlO.below h hb
    | 10, h => exact h
    | 11, h => exact h
    | 12, h => exact Pcs.below h hb
    | 13, h => exact SlO.below h hb
    | 14, h => exact NvO.below h hb
    | 15, _ => exact trivial
    | (_ + 16), _ => exact trivial
  · skip
    refine Inv.from_cons _ _ _ _ rfl (fun _ a w hJ hF F K hK => ?_) ?_
    · obtain ⟨⟨l⟩, ds⟩ := a
      have hsz : l.length = 18 := hF.size
      match l, hsz with
      | [x0, x1, x2, x3, x4, x5, x6, x7, x8, x9, x10, x11, x12, x13, x14, x15, x16, x17], _ =>
        obtain rfl : ds = [] := hF.defers
        obtain rfl : x1 = .pointer (some ⟨g, 0, none⟩) := hF.slot 1 (by kernel_rfl)
        clear F hF
        have hJ1 := hJ
        obtain ⟨⟨c0, c1, c2, c3, _⟩, _, _, _⟩ := hJ1
        go_simp
        exact hK (.pointer (some ⟨g, 0, none⟩)) _ hJ (Below.refl _ _) rfl
    refine Inv.from_cons _ _ _ _ rfl (fun _ a w hJ hF F K hK => ?_) ?_
    · obtain ⟨⟨l⟩, ds⟩ := a
      have hsz : l.length = 18 := hF.size
      match l, hsz with
      | [x0, x1, x2, x3, x4, x5, x6, x7, x8, x9, x10, x11, x12, x13, x14, x15, x16, x17], _ =>
        obtain rfl : ds = [] := hF.defers
        have f0 : x3 = .pointer (some ⟨g, 0, none⟩) := F 0 (by kernel_rfl) 3 rfl
        subst f0
        clear F hF
        have hJ1 := hJ
        obtain ⟨⟨c0, c1, c2, c3, _⟩, _, _, _⟩ := hJ1
        go_simp
        exact hK (.bool n.leaf) _ hJ (Below.refl _ _) rfl
    refine Inv.from_cons _ _ _ _ rfl (fun _ a w hJ hF F K hK => ?_) ?_
    · obtain ⟨⟨l⟩, ds⟩ := a
      have hsz : l.length = 18 := hF.size
      match l, hsz with
      | [x0, x1, x2, x3, x4, x5, x6, x7, x8, x9, x10, x11, x12, x13, x14, x15, x16, x17], _ =>
        obtain rfl : ds = [] := hF.defers
        obtain rfl : x1 = .pointer (some ⟨g, 0, none⟩) := hF.slot 1 (by kernel_rfl)
        clear F hF
        have hJ1 := hJ
        obtain ⟨⟨c0, c1, c2, c3, _⟩, _, _, _⟩ := hJ1
        go_simp
        exact hK (.pointer (some ⟨g, 1, none⟩)) _ hJ (Below.refl _ _) rfl
    refine Inv.from_cons _ _ _ _ rfl (fun _ a w hJ hF F K hK => ?_) ?_
    · obtain ⟨⟨l⟩, ds⟩ := a
      have hsz : l.length = 18 := hF.size
      match l, hsz with
      | [x0, x1, x2, x3, x4, x5, x6, x7, x8, x9, x10, x11, x12, x13, x14, x15, x16, x17], _ =>
        obtain rfl : ds = [] := hF.defers
        have f2 : x5 = .pointer (some ⟨g, 1, none⟩) := F 2 (by kernel_rfl) 5 rfl
        subst f2
        clear F hF
        have hJ1 := hJ
        obtain ⟨⟨c0, c1, c2, c3, _⟩, _, _, _⟩ := hJ1
        go_simp
        exact hK (.slice h.K n.keys.length h.kc) _ hJ (Below.refl _ _) rfl
    refine Inv.from_cons _ _ _ _ rfl (fun _ a w hJ hF F K hK => ?_) ?_
    · obtain ⟨⟨l⟩, ds⟩ := a
      have hsz : l.length = 18 := hF.size
      match l, hsz with
      | [x0, x1, x2, x3, x4, x5, x6, x7, x8, x9, x10, x11, x12, x13, x14, x15, x16, x17], _ =>
        obtain rfl : ds = [] := hF.defers
        have f3 : x6 = .slice h.K n.keys.length h.kc := F 3 (by kernel_rfl) 6 rfl
        subst f3
        clear F hF
        have hJ1 := hJ
        obtain ⟨⟨c0, c1, c2, c3, _⟩, _, _, _⟩ := hJ1
        go_simp
        exact hK _ _ ⟨hJ.1.below (al _ _), hJ.2.1.below (al _ _), hJ.2.2.1.below (al _ _), bstep hJ.2.2.2 (Nat.le_of_lt hJ.1.lt) (al _ _)⟩ (al _ _) (pcs1 hJ.2.1.ks (strs_1 _))
    refine Inv.from_cons _ _ _ _ rfl (fun _ a w hJ hF F K hK => ?_) ?_
    · obtain ⟨⟨l⟩, ds⟩ := a
      have hsz : l.length = 18 := hF.size
      match l, hsz with
      | [x0, x1, x2, x3, x4, x5, x6, x7, x8, x9, x10, x11, x12, x13, x14, x15, x16, x17], _ =>
        obtain rfl : ds = [] := hF.defers
        have f4 : Pcs [strs n.keys] x7 w := F 4 (by kernel_rfl) 7 rfl
        clear F hF
        have hJ1 := hJ
        obtain ⟨⟨c0, c1, c2, c3, _⟩, _, _, _⟩ := hJ1
        have hh := layO_s w _ _ f4 (by simp [strs]; have := HS.out.k; omega) (by simp)
        obtain ⟨P, m, c, rfl⟩ := f4.form
        clear f4
        go_simp
        (with_reducible refine hh.mono ?_)
        rintro e w' ⟨A, m', c', rfl, hA, hb⟩
        go_simp
        exact hK _ _ ⟨hJ.1.below hb, hJ.2.1.below hb, hJ.2.2.1.below hb, bstep hJ.2.2.2 (Nat.le_of_lt hJ.1.lt) hb⟩ hb (by simpa using hA.low (heap_lt hJ.2.2.1))
    refine Inv.from_cons _ _ _ _ rfl (fun _ a w hJ hF F K hK => ?_) ?_
    · obtain ⟨⟨l⟩, ds⟩ := a
      have hsz : l.length = 18 := hF.size
      match l, hsz with
      | [x0, x1, x2, x3, x4, x5, x6, x7, x8, x9, x10, x11, x12, x13, x14, x15, x16, x17], _ =>
        obtain rfl : ds = [] := hF.defers
        obtain rfl : x1 = .pointer (some ⟨g, 0, none⟩) := hF.slot 1 (by kernel_rfl)
        clear F hF
        have hJ1 := hJ
        obtain ⟨⟨c0, c1, c2, c3, _⟩, _, _, _⟩ := hJ1
        go_simp
        exact hK (.pointer (some ⟨g, 2, none⟩)) _ hJ (Below.refl _ _) rfl
    refine Inv.from_cons _ _ _ _ rfl (fun _ a w hJ hF F K hK => ?_) ?_
    · obtain ⟨⟨l⟩, ds⟩ := a
      have hsz : l.length = 18 := hF.size
      match l, hsz with
      | [x0, x1, x2, x3, x4, x5, x6, x7, x8, x9, x10, x11, x12, x13, x14, x15, x16, x17], _ =>
        obtain rfl : ds = [] := hF.defers
        have f6 : x9 = .pointer (some ⟨g, 2, none⟩) := F 6 (by kernel_rfl) 9 rfl
        subst f6
        clear F hF
        have hJ1 := hJ
        obtain ⟨⟨c0, c1, c2, c3, _⟩, _, _, _⟩ := hJ1
        go_simp
        exact hK (.slice h.V n.vals.length h.vc) _ hJ (Below.refl _ _) rfl
    refine Inv.from_cons _ _ _ _ rfl (fun _ a w hJ hF F K hK => ?_) ?_
    · obtain ⟨⟨l⟩, ds⟩ := a
      have hsz : l.length = 18 := hF.size
      match l, hsz with
      | [x0, x1, x2, x3, x4, x5, x6, x7, x8, x9, x10, x11, x12, x13, x14, x15, x16, x17], _ =>
        obtain rfl : ds = [] := hF.defers
        have f7 : x10 = .slice h.V n.vals.length h.vc := F 7 (by kernel_rfl) 10 rfl
        subst f7
        clear F hF
        have hJ1 := hJ
        obtain ⟨⟨c0, c1, c2, c3, _⟩, _, _, _⟩ := hJ1
        go_simp
        exact hK _ _ ⟨hJ.1.below (al _ _), hJ.2.1.below (al _ _), hJ.2.2.1.below (al _ _), bstep hJ.2.2.2 (Nat.le_of_lt hJ.1.lt) (al _ _)⟩ (al _ _) (pcs1 hJ.2.1.vs (strs_1 _))
    refine Inv.from_cons _ _ _ _ rfl (fun _ a w hJ hF F K hK => ?_) ?_
    · obtain ⟨⟨l⟩, ds⟩ := a
      have hsz : l.length = 18 := hF.size
      match l, hsz with
      | [x0, x1, x2, x3, x4, x5, x6, x7, x8, x9, x10, x11, x12, x13, x14, x15, x16, x17], _ =>
        obtain rfl : ds = [] := hF.defers
        have f5 : SlO (g + 2) (strs n.keys) x8 w := F 5 (by kernel_rfl) 8 rfl
        have f8 : Pcs [strs n.vals] x11 w := F 8 (by kernel_rfl) 11 rfl
        clear F hF
        have hJ1 := hJ
        obtain ⟨⟨c0, c1, c2, c3, _⟩, _, _, _⟩ := hJ1
        have hh := layO_s w _ _ f8 (by simp [strs]; have := HS.out.v; omega) (by simp)
        obtain ⟨P, m, c, rfl⟩ := f8.form
        clear f8
        go_simp
        (with_reducible refine hh.mono ?_)
        rintro e w' ⟨A, m', c', rfl, hA, hb⟩
        go_simp
        exact hK _ _ ⟨hJ.1.below hb, hJ.2.1.below hb, hJ.2.2.1.below hb, bstep hJ.2.2.2 (Nat.le_of_lt hJ.1.lt) hb⟩ hb (by simpa using hA.low (heap_lt hJ.2.2.1))
    refine Inv.from_cons _ _ _ _ rfl (fun _ a w hJ hF F K hK => ?_) ?_
    · obtain ⟨⟨l⟩, ds⟩ := a
      have hsz : l.length = 18 := hF.size
      match l, hsz with
      | [x0, x1, x2, x3, x4, x5, x6, x7, x8, x9, x10, x11, x12, x13, x14, x15, x16, x17], _ =>
        obtain rfl : ds = [] := hF.defers
        obtain rfl : x1 = .pointer (some ⟨g, 0, none⟩) := hF.slot 1 (by kernel_rfl)
        clear F hF
        have hJ1 := hJ
        obtain ⟨⟨c0, c1, c2, c3, _⟩, _, _, _⟩ := hJ1
        go_simp
        exact hK (.pointer (some ⟨g, 3, none⟩)) _ hJ (Below.refl _ _) rfl
    refine Inv.from_cons _ _ _ _ rfl (fun _ a w hJ hF F K hK => ?_) ?_
    · obtain ⟨⟨l⟩, ds⟩ := a
      have hsz : l.length = 18 := hF.size
      match l, hsz with
      | [x0, x1, x2, x3, x4, x5, x6, x7, x8, x9, x10, x11, x12, x13, x14, x15, x16, x17], _ =>
        obtain rfl : ds = [] := hF.defers
        have f10 : x13 = .pointer (some ⟨g, 3, none⟩) := F 10 (by kernel_rfl) 13 rfl
        subst f10
        clear F hF
        have hJ1 := hJ
        obtain ⟨⟨c0, c1, c2, c3, _⟩, _, _, _⟩ := hJ1
        go_simp
        exact hK (.slice h.D n.kids.length h.dc) _ hJ (Below.refl _ _) rfl
    refine Inv.from_cons _ _ _ _ rfl (fun _ a w hJ hF F K hK => ?_) ?_
    · obtain ⟨⟨l⟩, ds⟩ := a
      have hsz : l.length = 18 := hF.size
      match l, hsz with
      | [x0, x1, x2, x3, x4, x5, x6, x7, x8, x9, x10, x11, x12, x13, x14, x15, x16, x17], _ =>
        obtain rfl : ds = [] := hF.defers
        have f11 : x14 = .slice h.D n.kids.length h.dc := F 11 (by kernel_rfl) 14 rfl
        subst f11
        clear F hF
        have hJ1 := hJ
        obtain ⟨⟨c0, c1, c2, c3, _⟩, _, _, _⟩ := hJ1
        go_simp
        exact hK _ _ ⟨hJ.1.below (al _ _), hJ.2.1.below (al _ _), hJ.2.2.1.below (al _ _), bstep hJ.2.2.2 (Nat.le_of_lt hJ.1.lt) (al _ _)⟩ (al _ _) (pcs1 hJ.2.1.ds (ints_1 _))
    refine Inv.from_cons _ _ _ _ rfl (fun _ a w hJ hF F K hK => ?_) ?_
    · obtain ⟨⟨l⟩, ds⟩ := a
      have hsz : l.length = 18 := hF.size
      match l, hsz with
      | [x0, x1, x2, x3, x4, x5, x6, x7, x8, x9, x10, x11, x12, x13, x14, x15, x16, x17], _ =>
        obtain rfl : ds = [] := hF.defers
        have f9 : SlO (g + 2) (strs n.vals) x12 w := F 9 (by kernel_rfl) 12 rfl
        have f12 : Pcs [ints n.kids] x15 w := F 12 (by kernel_rfl) 15 rfl
        clear F hF
        have hJ1 := hJ
        obtain ⟨⟨c0, c1, c2, c3, _⟩, _, _, _⟩ := hJ1
        have hh := layO_i w _ _ f12 (by simp [ints]; have := HS.out.d; omega) (by simp)
        obtain ⟨P, m, c, rfl⟩ := f12.form
        clear f12
        go_simp
        (with_reducible refine hh.mono ?_)
        rintro e w' ⟨A, m', c', rfl, hA, hb⟩
        go_simp
        exact hK _ _ ⟨hJ.1.below hb, hJ.2.1.below hb, hJ.2.2.1.below hb, bstep hJ.2.2.2 (Nat.le_of_lt hJ.1.lt) hb⟩ hb (by simpa using hA.low (heap_lt hJ.2.2.1))
    refine Inv.from_cons _ _ _ _ rfl (fun _ a w hJ hF F K hK => ?_) ?_
    · obtain ⟨⟨l⟩, ds⟩ := a
      have hsz : l.length = 18 := hF.size
      match l, hsz with
      | [x0, x1, x2, x3, x4, x5, x6, x7, x8, x9, x10, x11, x12, x13, x14, x15, x16, x17], _ =>
        obtain rfl : ds = [] := hF.defers
        have f1 : x4 = .bool n.leaf := F 1 (by kernel_rfl) 4 rfl
        subst f1
        have f5 : SlO (g + 2) (strs n.keys) x8 w := F 5 (by kernel_rfl) 8 rfl
        have f9 : SlO (g + 2) (strs n.vals) x12 w := F 9 (by kernel_rfl) 12 rfl
        have f13 : SlO (g + 2) (ints n.kids) x16 w := F 13 (by kernel_rfl) 16 rfl
        clear F hF
        have hJ1 := hJ
        obtain ⟨⟨c0, c1, c2, c3, _⟩, _, _, _⟩ := hJ1
        have g5 := f5.form
        have g9 := f9.form
        have g13 := f13.form
        obtain ⟨A1, m1, k1, rfl⟩ := g5
        obtain ⟨A2, m2, k2, rfl⟩ := g9
        obtain ⟨A3, m3, k3, rfl⟩ := g13
        go_simp
        exact hK _ _ hJ (Below.refl _ _) ⟨_, _, _, rfl, f5, f9, f13⟩
    refine Inv.from_skip _ _ _ _ rfl ?_
    exact Inv.from_end _ _ _ _ (by decide +kernel)
  · intro o ho a w hJ hF F K hK
    injection (show some _ = some o from ho) with ho
    subst ho
    obtain ⟨⟨l⟩, ds⟩ := a
    have hsz : l.length = 18 := hF.size
    match l, hsz with
    | [x0, x1, x2, x3, x4, x5, x6, x7, x8, x9, x10, x11, x12, x13, x14, x15, x16, x17], _ =>
      obtain rfl : ds = [] := hF.defers
      obtain rfl : x1 = .pointer (some ⟨g, 0, none⟩) := hF.slot 1 (by kernel_rfl)
      obtain rfl : x2 = .pointer (some ⟨g + 1, 0, none⟩) := hF.slot 2 (by kernel_rfl)
      have f0 : x3 = .pointer (some ⟨g, 0, none⟩) := F 0 (by decide) 3 rfl
      have f1 : x4 = .bool n.leaf := F 1 (by decide) 4 rfl
      have f2 : x5 = .pointer (some ⟨g, 1, none⟩) := F 2 (by decide) 5 rfl
      have f3 : x6 = .slice h.K n.keys.length h.kc := F 3 (by decide) 6 rfl
      have f4 : Pcs [strs n.keys] x7 w := F 4 (by decide) 7 rfl
      have f5 : SlO (g + 2) (strs n.keys) x8 w := F 5 (by decide) 8 rfl
      have f6 : x9 = .pointer (some ⟨g, 2, none⟩) := F 6 (by decide) 9 rfl
      have f7 : x10 = .slice h.V n.vals.length h.vc := F 7 (by decide) 10 rfl
      have f8 : Pcs [strs n.vals] x11 w := F 8 (by decide) 11 rfl
      have f9 : SlO (g + 2) (strs n.vals) x12 w := F 9 (by decide) 12 rfl
      have f10 : x13 = .pointer (some ⟨g, 3, none⟩) := F 10 (by decide) 13 rfl
      have f11 : x14 = .slice h.D n.kids.length h.dc := F 11 (by decide) 14 rfl
      have f12 : Pcs [ints n.kids] x15 w := F 12 (by decide) 15 rfl
      have f13 : SlO (g + 2) (ints n.kids) x16 w := F 13 (by decide) 16 rfl
      have f14 : NvO (g + 2) n x17 w := F 14 (by decide) 17 rfl
      subst f0
      subst f1
      subst f2
      subst f3
      subst f6
      subst f7
      subst f10
      subst f11
      clear F hF
      have hJ1 := hJ
      obtain ⟨⟨c0, c1, c2, c3, _⟩, _, _, _⟩ := hJ1
      have hv := f14
      obtain ⟨a, b, c, rfl, fa, fb, fc⟩ := f14
      obtain ⟨A1, m1, k1, rfl⟩ := fa.form
      obtain ⟨A2, m2, k2, rfl⟩ := fb.form
      obtain ⟨A3, m3, k3, rfl⟩ := fc.form
      have hat := hJ.2.2.1
      obtain ⟨q0, q1, q2, q3, z0, z1, z2, z3⟩ := hat.f4
      clear fa fb fc
      have HV := Lib.hid (hv.st4 (g := g + 1) (a := .bool n.leaf) (b := .slice A1 m1 k1) (c := .slice A2 m2 k2) (d := .slice A3 m3 k3) (by omega))
      have HA := Lib.hid (set4 hat (.bool n.leaf) (.slice A1 m1 k1) (.slice A2 m2 k2) (.slice A3 m3 k3))
      have HB := Lib.hid (below4 hJ.2.2.2 (show g ≤ g + 1 by omega) (.bool n.leaf) (.slice A1 m1 k1) (.slice A2 m2 k2) (.slice A3 m3 k3))
      clear hJ hv hat f5 f9 f13 f4 f8 f12 c0 c1 c2 c3
      go_simp
      refine hK _ _ ?_
      clear hK
      go_wp2_with fail
      refine bodyPost_ret (results_cell_row rfl _ _ (g + 1) 25 _ (0, 0) _ rfl HA.out Try.underlying25 rfl (by kernel_rfl)) rfl ?_
      exact ⟨_, rfl, HV.out.low (by have := HG.out; omega), by rw [HG.out]; exact HB.out⟩
  · intro hq; exact absurd hq (by decide +kernel)
theorem copied_any (W : World) (n : Nd) (h : Hd) (hl : Lay W n h) (hs : Small n) :
    Calls Try.prog 48 #[nv n h] W fun e w' => ∃ v, e = .returned v ∧ Nv n v w' ∧ Below W.heap.size W w' :=
  (copied_o W n h hl hs).mono fun _ _ ⟨v, h1, h2, h3⟩ => ⟨v, h1, h2.nv, h3⟩
end Go.Proofs.Ytpcpfcllgadghaa.NodeCopied
