/- The contracts of Put of a leaf, and of Drop of a key that a leaf has. -/
import Derived.Test.YtpcpfcllgadghaaNodePut
import Derived.Test.YtpcpfcllgadghaaNodeFind
import Derived.Test.YtpcpfcllgadghaaInv
namespace Go.Proofs.Ytpcpfcllgadghaa.NodePutDrop
open Go.RowKit Base NodePlain NodeRead NodeSlice NodeCheck NodeBox NodePut NodeFind

set_option maxRecDepth 100000 in
theorem lit35 (l : List Value) (h : l.length = 35) : ∃ x0 x1 x2 x3 x4 x5 x6 x7 x8 x9 x10 x11 x12 x13 x14 x15 x16 x17 x18 x19 x20 x21 x22 x23 x24 x25 x26 x27 x28 x29 x30 x31 x32 x33 x34, l = [x0, x1, x2, x3, x4, x5, x6, x7, x8, x9, x10, x11, x12, x13, x14, x15, x16, x17, x18, x19, x20, x21, x22, x23, x24, x25, x26, x27, x28, x29, x30, x31, x32, x33, x34] := by
  match l, h with
  | x0 :: x1 :: x2 :: x3 :: x4 :: x5 :: x6 :: x7 :: x8 :: x9 :: x10 :: x11 :: x12 :: x13 :: x14 :: x15 :: x16 :: x17 :: x18 :: x19 :: x20 :: x21 :: x22 :: x23 :: x24 :: x25 :: x26 :: x27 :: x28 :: x29 :: x30 :: x31 :: x32 :: x33 :: x34 :: [], _ => exact ⟨_, _, _, _, _, _, _, _, _, _, _, _, _, _, _, _, _, _, _, _, _, _, _, _, _, _, _, _, _, _, _, _, _, _, _, rfl⟩
set_option maxRecDepth 100000 in
theorem lit40 (l : List Value) (h : l.length = 40) : ∃ x0 x1 x2 x3 x4 x5 x6 x7 x8 x9 x10 x11 x12 x13 x14 x15 x16 x17 x18 x19 x20 x21 x22 x23 x24 x25 x26 x27 x28 x29 x30 x31 x32 x33 x34 x35 x36 x37 x38 x39, l = [x0, x1, x2, x3, x4, x5, x6, x7, x8, x9, x10, x11, x12, x13, x14, x15, x16, x17, x18, x19, x20, x21, x22, x23, x24, x25, x26, x27, x28, x29, x30, x31, x32, x33, x34, x35, x36, x37, x38, x39] := by
  match l, h with
  | x0 :: x1 :: x2 :: x3 :: x4 :: x5 :: x6 :: x7 :: x8 :: x9 :: x10 :: x11 :: x12 :: x13 :: x14 :: x15 :: x16 :: x17 :: x18 :: x19 :: x20 :: x21 :: x22 :: x23 :: x24 :: x25 :: x26 :: x27 :: x28 :: x29 :: x30 :: x31 :: x32 :: x33 :: x34 :: x35 :: x36 :: x37 :: x38 :: x39 :: [], _ => exact ⟨_, _, _, _, _, _, _, _, _, _, _, _, _, _, _, _, _, _, _, _, _, _, _, _, _, _, _, _, _, _, _, _, _, _, _, _, _, _, _, _, rfl⟩
theorem at_le (n : Nd) (key : ByteArray) : at_ n key ≤ n.keys.length := by
  have hp := pos_le n.keys key
  unfold at_
  split
  · rename_i h
    have hm : key ∈ n.keys := (has_mem _ _).1 (by simp at h; exact h.1)
    rcases Nat.lt_or_ge (pos n.keys key) n.keys.length with g | g
    · omega
    · obtain ⟨i, hi, rfl⟩ := List.mem_iff_getElem.1 hm
      have := pos_below n.keys n.keys[i] (j := i) (by omega)
      rw [less_irrefl] at this
      cases this
  · omega
/-- a leaf with a key's value -/
def putP (n : Nd) (key value : ByteArray) (a e : Nat) : Nd := ⟨true, n.keys.take a ++ ([key] ++ n.keys.drop e), n.vals.take a ++ ([value] ++ n.vals.drop e), []⟩
/-- a leaf without a key -/
def dropP (n : Nd) (a e : Nat) : Nd := ⟨true, n.keys.take a ++ ([] ++ n.keys.drop e), n.vals.take a ++ ([] ++ n.vals.drop e), []⟩
set_option maxRecDepth 100000 in
set_option maxHeartbeats 6400000 in
theorem put_true (W : World) (n : Nd) (h : Hd) (key value : ByteArray) (hl : Lay W n h) (hs : Small n) (hu : Up n.keys) (hleaf : n.leaf = true) (hhas : has n.keys key = true) (e : Nat) (he : e = at_ n key + 1) :
    Calls Try.prog 26 #[nv n h, .string key, .string value] W fun e' w' => ∃ v, e' = .returned v ∧ Nv (putP n key value (at_ n key) e) v w' ∧ Below W.heap.size W w' := by
  have HS := Lib.hid hs
  have hb1 := box_below W n h
  have hbx := bx_new W n h
  have b2 := al (box W n h) (.cells #[.bool false, .slice none 0 0, .slice none 0 0, .slice none 0 0] 25)
  have hat := at_new (box W n h) #[.bool false, .slice none 0 0, .slice none 0 0, .slice none 0 0] 25
  have hsz : (box W n h).heap.size = W.heap.size + 1 := by simp
  rw [hsz] at hat
  have hbx2 := hbx.below b2
  have hl2 := (hl.below hb1).below b2
  have hB2 := Below.step hb1 b2
  obtain ⟨w2, hw2⟩ : ∃ v, v = (box W n h).alloc (.cells #[.bool false, .slice none 0 0, .slice none 0 0, .slice none 0 0] 25) := ⟨_, rfl⟩
  rw [← hw2] at hat hbx2 hl2 hB2
  unfold box at hw2
  have HW2 := Lib.hid hw2
  have HJ := Lib.hid (fun w' (hb : Below w2.heap.size w2 w') => show Bx w' W.heap.size n h ∧ Lay w' n h ∧ At w' (W.heap.size + 1) 25 #[.bool false, .slice none 0 0, .slice none 0 0, .slice none 0 0] ∧ Below W.heap.size W w' from ⟨hbx2.below hb, hl2.below hb, hat.below hb, bstep hB2 hB2.size hb⟩)
  have hfi := find_any w2 n h key hl2 hu (by have := hs.k; omega)
  have hal : at_ n key ≤ 1000 := by have := at_le n key; have := hs.k; omega
  obtain ⟨c0, c1, c2, c3, _⟩ := hbx2
  have HLF := Lib.hid hleaf
  clear hw2 hat hl2 hB2 hb1 hbx b2 hsz hs hl hu
  rw [hhas] at hfi
  unfold nv at hfi
  rw [hleaf] at hfi
  have HE := Lib.hid he
  rw [hleaf] at c0
  generalize at_ n key = a at *
  clear hhas he
  have hleaf := HLF.out
  go_enter Try.func26, Try.ntmps26
  go_wp2_with fail
  rw [hleaf] at HW2
  rw [← HW2.out]
  clear HW2
  refine hfi.mono ?_
  rintro e' w3 ⟨rfl, b3⟩
  have hJ3 := HJ.out w3 b3
  clear hfi HJ b3 c0 c1 c2 c3
  go_wp2_with fail
  have hJ0 : (fun w' : World => Bx w' W.heap.size n h ∧ Lay w' n h ∧ At w' (W.heap.size + 1) 25 #[.bool false, .slice none 0 0, .slice none 0 0, .slice none 0 0] ∧ Below W.heap.size W w') (World.drew w3) := ⟨hJ3.1.below (Below.refl _ _).drew, hJ3.2.1.below (Below.refl _ _).drew, hJ3.2.2.1.below (Below.refl _ _).drew, hJ3.2.2.2.drew⟩
  clear hJ3
  dsimp only at hJ0
  have hev : (a : Int) + 1 = (e : Int) := by have := HE.out; omega
  try rw [hev]
  clear hev
  generalize hg : W.heap.size = g at *
  have HG := Lib.hid hg
  clear hg hleaf
  refine wp_region_any (by kernel_rfl) ?_
  change wpAny _ _ _ _ _ _ _ (World.drew _)
  refine Inv.inv_any (fun (i : Nat) (v : Value) (w : World) => match i with | 0 => v = .pointer (some ⟨g, 1, none⟩) | 1 => v = .slice h.K n.keys.length h.kc | 2 => v = .int .i64 (a : Int) | 3 => v = .int .i64 (e : Int) | 4 => v = .string key | 5 => SlA [.string key] v w | 6 => SlO (g + 2) (strs (n.keys.take a ++ ([key] ++ n.keys.drop e))) v w | 7 => v = .pointer (some ⟨g, 2, none⟩) | 8 => v = .slice h.V n.vals.length h.vc | 9 => v = .int .i64 (a : Int) | 10 => v = .int .i64 (e : Int) | 11 => v = .string value | 12 => SlA [.string value] v w | 13 => SlO (g + 2) (strs (n.vals.take a ++ ([value] ++ n.vals.drop e))) v w | 14 => NvO (g + 2) ⟨true, n.keys.take a ++ ([key] ++ n.keys.drop e), n.vals.take a ++ ([value] ++ n.vals.drop e), []⟩ v w | _ => True) (fun w' : World => Bx w' g n h ∧ Lay w' n h ∧ At w' (g + 1) 25 #[.bool false, .slice none 0 0, .slice none 0 0, .slice none 0 0] ∧ Below g W w') _ 15 40 rfl rfl rfl (by kernel_rfl) (by kernel_rfl) hJ0 ?_ ?_ ?_ ?_
  · intro j v w w' h hb
    match j, h with
    | 0, h => exact h
    | 1, h => exact h
    | 2, h => exact h
    | 3, h => exact h
    | 4, h => exact h
    | 5, h => exact SlA.below h hb
    | 6, h => exact SlO.below h hb
    | 7, h => exact h
    | 8, h => exact h
    | 9, h => exact h
    | 10, h => exact h
    | 11, h => exact h
    | 12, h => exact SlA.below h hb
    | 13, h => exact SlO.below h hb
    | 14, h => exact NvO.below h hb
    | 15, _ => exact trivial
    | (_ + 16), _ => exact trivial
  · skip
    refine Inv.from_cons _ _ _ _ rfl (fun _ a w hJ hF F K hK => ?_) ?_
    · obtain ⟨⟨l⟩, ds⟩ := a
      have hsz : l.length = 40 := hF.size
      obtain ⟨x0, x1, x2, x3, x4, x5, x6, x7, x8, x9, x10, x11, x12, x13, x14, x15, x16, x17, x18, x19, x20, x21, x22, x23, x24, x25, x26, x27, x28, x29, x30, x31, x32, x33, x34, x35, x36, x37, x38, x39, rfl⟩ := lit40 l hsz
      all_goals
        obtain rfl : ds = [] := hF.defers
        obtain rfl : x3 = .pointer (some ⟨g, 0, none⟩) := hF.slot 3 (by kernel_rfl)
        clear F hF
        have hJ1 := hJ
        obtain ⟨⟨c0, c1, c2, c3, _⟩, _, _, _⟩ := hJ1
        go_simp
        exact hK (.pointer (some ⟨g, 1, none⟩)) _ hJ (Below.refl _ _) rfl
    refine Inv.from_cons _ _ _ _ rfl (fun _ a w hJ hF F K hK => ?_) ?_
    · obtain ⟨⟨l⟩, ds⟩ := a
      have hsz : l.length = 40 := hF.size
      obtain ⟨x0, x1, x2, x3, x4, x5, x6, x7, x8, x9, x10, x11, x12, x13, x14, x15, x16, x17, x18, x19, x20, x21, x22, x23, x24, x25, x26, x27, x28, x29, x30, x31, x32, x33, x34, x35, x36, x37, x38, x39, rfl⟩ := lit40 l hsz
      all_goals
        obtain rfl : ds = [] := hF.defers
        have f0 : x25 = .pointer (some ⟨g, 1, none⟩) := F 0 (by kernel_rfl) 25 rfl
        subst f0
        clear F hF
        have hJ1 := hJ
        obtain ⟨⟨c0, c1, c2, c3, _⟩, _, _, _⟩ := hJ1
        go_simp
        exact hK (.slice h.K n.keys.length h.kc) _ hJ (Below.refl _ _) rfl
    refine Inv.from_cons _ _ _ _ rfl (fun _ a w hJ hF F K hK => ?_) ?_
    · obtain ⟨⟨l⟩, ds⟩ := a
      have hsz : l.length = 40 := hF.size
      obtain ⟨x0, x1, x2, x3, x4, x5, x6, x7, x8, x9, x10, x11, x12, x13, x14, x15, x16, x17, x18, x19, x20, x21, x22, x23, x24, x25, x26, x27, x28, x29, x30, x31, x32, x33, x34, x35, x36, x37, x38, x39, rfl⟩ := lit40 l hsz
      all_goals
        obtain rfl : ds = [] := hF.defers
        obtain rfl : x7 = .int .i64 (a : Int) := hF.slot 7 (by kernel_rfl)
        clear F hF
        have hJ1 := hJ
        obtain ⟨⟨c0, c1, c2, c3, _⟩, _, _, _⟩ := hJ1
        go_simp
        exact hK (.int .i64 (a : Int)) _ hJ (Below.refl _ _) rfl
    refine Inv.from_cons _ _ _ _ rfl (fun _ a w hJ hF F K hK => ?_) ?_
    · obtain ⟨⟨l⟩, ds⟩ := a
      have hsz : l.length = 40 := hF.size
      obtain ⟨x0, x1, x2, x3, x4, x5, x6, x7, x8, x9, x10, x11, x12, x13, x14, x15, x16, x17, x18, x19, x20, x21, x22, x23, x24, x25, x26, x27, x28, x29, x30, x31, x32, x33, x34, x35, x36, x37, x38, x39, rfl⟩ := lit40 l hsz
      all_goals
        obtain rfl : ds = [] := hF.defers
        obtain rfl : x9 = .int .i64 (e : Int) := hF.slot 9 (by kernel_rfl)
        clear F hF
        have hJ1 := hJ
        obtain ⟨⟨c0, c1, c2, c3, _⟩, _, _, _⟩ := hJ1
        go_simp
        exact hK (.int .i64 (e : Int)) _ hJ (Below.refl _ _) rfl
    refine Inv.from_cons _ _ _ _ rfl (fun _ a w hJ hF F K hK => ?_) ?_
    · obtain ⟨⟨l⟩, ds⟩ := a
      have hsz : l.length = 40 := hF.size
      obtain ⟨x0, x1, x2, x3, x4, x5, x6, x7, x8, x9, x10, x11, x12, x13, x14, x15, x16, x17, x18, x19, x20, x21, x22, x23, x24, x25, x26, x27, x28, x29, x30, x31, x32, x33, x34, x35, x36, x37, x38, x39, rfl⟩ := lit40 l hsz
      all_goals
        obtain rfl : ds = [] := hF.defers
        obtain rfl : x1 = .string key := hF.slot 1 (by kernel_rfl)
        clear F hF
        have hJ1 := hJ
        obtain ⟨⟨c0, c1, c2, c3, _⟩, _, _, _⟩ := hJ1
        go_simp
        exact hK (.string key) _ hJ (Below.refl _ _) rfl
    refine Inv.from_cons _ _ _ _ rfl (fun _ a w hJ hF F K hK => ?_) ?_
    · obtain ⟨⟨l⟩, ds⟩ := a
      have hsz : l.length = 40 := hF.size
      obtain ⟨x0, x1, x2, x3, x4, x5, x6, x7, x8, x9, x10, x11, x12, x13, x14, x15, x16, x17, x18, x19, x20, x21, x22, x23, x24, x25, x26, x27, x28, x29, x30, x31, x32, x33, x34, x35, x36, x37, x38, x39, rfl⟩ := lit40 l hsz
      all_goals
        obtain rfl : ds = [] := hF.defers
        have f4 : x29 = .string key := F 4 (by kernel_rfl) 29 rfl
        subst f4
        clear F hF
        have hJ1 := hJ
        obtain ⟨⟨c0, c1, c2, c3, _⟩, _, _, _⟩ := hJ1
        go_simp
        exact hK _ _ ⟨hJ.1.below (al _ _), hJ.2.1.below (al _ _), hJ.2.2.1.below (al _ _), bstep hJ.2.2.2 (Nat.le_of_lt hJ.1.lt) (al _ _)⟩ (al _ _) (sl_new _)
    refine Inv.from_cons _ _ _ _ rfl (fun _ a w hJ hF F K hK => ?_) ?_
    · obtain ⟨⟨l⟩, ds⟩ := a
      have hsz : l.length = 40 := hF.size
      obtain ⟨x0, x1, x2, x3, x4, x5, x6, x7, x8, x9, x10, x11, x12, x13, x14, x15, x16, x17, x18, x19, x20, x21, x22, x23, x24, x25, x26, x27, x28, x29, x30, x31, x32, x33, x34, x35, x36, x37, x38, x39, rfl⟩ := lit40 l hsz
      all_goals
        obtain rfl : ds = [] := hF.defers
        have f1 : x26 = .slice h.K n.keys.length h.kc := F 1 (by kernel_rfl) 26 rfl
        subst f1
        have f2 : x27 = .int .i64 (a : Int) := F 2 (by kernel_rfl) 27 rfl
        subst f2
        have f3 : x28 = .int .i64 (e : Int) := F 3 (by kernel_rfl) 28 rfl
        subst f3
        have f5 : SlA [.string key] x30 w := F 5 (by kernel_rfl) 30 rfl
        clear F hF
        have hJ1 := hJ
        obtain ⟨⟨c0, c1, c2, c3, _⟩, _, _, _⟩ := hJ1
        obtain ⟨A5, m5, k5, rfl⟩ := f5.form
        have hh := put_any w h.K n.keys.length h.kc a e (strs n.keys) [.string key] A5 m5 k5 (hJ.2.1.ks) (strs_1 _) f5 (by intro u hu; rw [List.mem_singleton.1 hu]; rfl) (by rw [strs_len]; have := HS.out.k; omega) (by simp) a e rfl rfl
        clear f5
        go_simp
        (with_reducible refine hh.mono ?_)
        rintro e' w' ⟨A, m', c', rfl, hA, hb⟩
        go_simp
        exact hK _ _ ⟨hJ.1.below hb, hJ.2.1.below hb, hJ.2.2.1.below hb, bstep hJ.2.2.2 (Nat.le_of_lt hJ.1.lt) hb⟩ hb (by have := hA.low (heap_lt hJ.2.2.1); simpa [strs, List.map_take, List.map_drop] using this)
    refine Inv.from_cons _ _ _ _ rfl (fun _ a w hJ hF F K hK => ?_) ?_
    · obtain ⟨⟨l⟩, ds⟩ := a
      have hsz : l.length = 40 := hF.size
      obtain ⟨x0, x1, x2, x3, x4, x5, x6, x7, x8, x9, x10, x11, x12, x13, x14, x15, x16, x17, x18, x19, x20, x21, x22, x23, x24, x25, x26, x27, x28, x29, x30, x31, x32, x33, x34, x35, x36, x37, x38, x39, rfl⟩ := lit40 l hsz
      all_goals
        obtain rfl : ds = [] := hF.defers
        obtain rfl : x3 = .pointer (some ⟨g, 0, none⟩) := hF.slot 3 (by kernel_rfl)
        clear F hF
        have hJ1 := hJ
        obtain ⟨⟨c0, c1, c2, c3, _⟩, _, _, _⟩ := hJ1
        go_simp
        exact hK (.pointer (some ⟨g, 2, none⟩)) _ hJ (Below.refl _ _) rfl
    refine Inv.from_cons _ _ _ _ rfl (fun _ a w hJ hF F K hK => ?_) ?_
    · obtain ⟨⟨l⟩, ds⟩ := a
      have hsz : l.length = 40 := hF.size
      obtain ⟨x0, x1, x2, x3, x4, x5, x6, x7, x8, x9, x10, x11, x12, x13, x14, x15, x16, x17, x18, x19, x20, x21, x22, x23, x24, x25, x26, x27, x28, x29, x30, x31, x32, x33, x34, x35, x36, x37, x38, x39, rfl⟩ := lit40 l hsz
      all_goals
        obtain rfl : ds = [] := hF.defers
        have f7 : x32 = .pointer (some ⟨g, 2, none⟩) := F 7 (by kernel_rfl) 32 rfl
        subst f7
        clear F hF
        have hJ1 := hJ
        obtain ⟨⟨c0, c1, c2, c3, _⟩, _, _, _⟩ := hJ1
        go_simp
        exact hK (.slice h.V n.vals.length h.vc) _ hJ (Below.refl _ _) rfl
    refine Inv.from_cons _ _ _ _ rfl (fun _ a w hJ hF F K hK => ?_) ?_
    · obtain ⟨⟨l⟩, ds⟩ := a
      have hsz : l.length = 40 := hF.size
      obtain ⟨x0, x1, x2, x3, x4, x5, x6, x7, x8, x9, x10, x11, x12, x13, x14, x15, x16, x17, x18, x19, x20, x21, x22, x23, x24, x25, x26, x27, x28, x29, x30, x31, x32, x33, x34, x35, x36, x37, x38, x39, rfl⟩ := lit40 l hsz
      all_goals
        obtain rfl : ds = [] := hF.defers
        obtain rfl : x7 = .int .i64 (a : Int) := hF.slot 7 (by kernel_rfl)
        clear F hF
        have hJ1 := hJ
        obtain ⟨⟨c0, c1, c2, c3, _⟩, _, _, _⟩ := hJ1
        go_simp
        exact hK (.int .i64 (a : Int)) _ hJ (Below.refl _ _) rfl
    refine Inv.from_cons _ _ _ _ rfl (fun _ a w hJ hF F K hK => ?_) ?_
    · obtain ⟨⟨l⟩, ds⟩ := a
      have hsz : l.length = 40 := hF.size
      obtain ⟨x0, x1, x2, x3, x4, x5, x6, x7, x8, x9, x10, x11, x12, x13, x14, x15, x16, x17, x18, x19, x20, x21, x22, x23, x24, x25, x26, x27, x28, x29, x30, x31, x32, x33, x34, x35, x36, x37, x38, x39, rfl⟩ := lit40 l hsz
      all_goals
        obtain rfl : ds = [] := hF.defers
        obtain rfl : x9 = .int .i64 (e : Int) := hF.slot 9 (by kernel_rfl)
        clear F hF
        have hJ1 := hJ
        obtain ⟨⟨c0, c1, c2, c3, _⟩, _, _, _⟩ := hJ1
        go_simp
        exact hK (.int .i64 (e : Int)) _ hJ (Below.refl _ _) rfl
    refine Inv.from_cons _ _ _ _ rfl (fun _ a w hJ hF F K hK => ?_) ?_
    · obtain ⟨⟨l⟩, ds⟩ := a
      have hsz : l.length = 40 := hF.size
      obtain ⟨x0, x1, x2, x3, x4, x5, x6, x7, x8, x9, x10, x11, x12, x13, x14, x15, x16, x17, x18, x19, x20, x21, x22, x23, x24, x25, x26, x27, x28, x29, x30, x31, x32, x33, x34, x35, x36, x37, x38, x39, rfl⟩ := lit40 l hsz
      all_goals
        obtain rfl : ds = [] := hF.defers
        obtain rfl : x2 = .string value := hF.slot 2 (by kernel_rfl)
        clear F hF
        have hJ1 := hJ
        obtain ⟨⟨c0, c1, c2, c3, _⟩, _, _, _⟩ := hJ1
        go_simp
        exact hK (.string value) _ hJ (Below.refl _ _) rfl
    refine Inv.from_cons _ _ _ _ rfl (fun _ a w hJ hF F K hK => ?_) ?_
    · obtain ⟨⟨l⟩, ds⟩ := a
      have hsz : l.length = 40 := hF.size
      obtain ⟨x0, x1, x2, x3, x4, x5, x6, x7, x8, x9, x10, x11, x12, x13, x14, x15, x16, x17, x18, x19, x20, x21, x22, x23, x24, x25, x26, x27, x28, x29, x30, x31, x32, x33, x34, x35, x36, x37, x38, x39, rfl⟩ := lit40 l hsz
      all_goals
        obtain rfl : ds = [] := hF.defers
        have f11 : x36 = .string value := F 11 (by kernel_rfl) 36 rfl
        subst f11
        clear F hF
        have hJ1 := hJ
        obtain ⟨⟨c0, c1, c2, c3, _⟩, _, _, _⟩ := hJ1
        go_simp
        exact hK _ _ ⟨hJ.1.below (al _ _), hJ.2.1.below (al _ _), hJ.2.2.1.below (al _ _), bstep hJ.2.2.2 (Nat.le_of_lt hJ.1.lt) (al _ _)⟩ (al _ _) (sl_new _)
    refine Inv.from_cons _ _ _ _ rfl (fun _ a w hJ hF F K hK => ?_) ?_
    · obtain ⟨⟨l⟩, ds⟩ := a
      have hsz : l.length = 40 := hF.size
      obtain ⟨x0, x1, x2, x3, x4, x5, x6, x7, x8, x9, x10, x11, x12, x13, x14, x15, x16, x17, x18, x19, x20, x21, x22, x23, x24, x25, x26, x27, x28, x29, x30, x31, x32, x33, x34, x35, x36, x37, x38, x39, rfl⟩ := lit40 l hsz
      all_goals
        obtain rfl : ds = [] := hF.defers
        have f6 : SlO (g + 2) (strs (n.keys.take a ++ ([key] ++ n.keys.drop e))) x31 w := F 6 (by kernel_rfl) 31 rfl
        have f8 : x33 = .slice h.V n.vals.length h.vc := F 8 (by kernel_rfl) 33 rfl
        subst f8
        have f9 : x34 = .int .i64 (a : Int) := F 9 (by kernel_rfl) 34 rfl
        subst f9
        have f10 : x35 = .int .i64 (e : Int) := F 10 (by kernel_rfl) 35 rfl
        subst f10
        have f12 : SlA [.string value] x37 w := F 12 (by kernel_rfl) 37 rfl
        clear F hF
        have hJ1 := hJ
        obtain ⟨⟨c0, c1, c2, c3, _⟩, _, _, _⟩ := hJ1
        obtain ⟨A5, m5, k5, rfl⟩ := f12.form
        have hh := put_any w h.V n.vals.length h.vc a e (strs n.vals) [.string value] A5 m5 k5 (hJ.2.1.vs) (strs_1 _) f12 (by intro u hu; rw [List.mem_singleton.1 hu]; rfl) (by rw [strs_len]; have := HS.out.v; omega) (by simp) a e rfl rfl
        clear f12
        go_simp
        (with_reducible refine hh.mono ?_)
        rintro e' w' ⟨A, m', c', rfl, hA, hb⟩
        go_simp
        exact hK _ _ ⟨hJ.1.below hb, hJ.2.1.below hb, hJ.2.2.1.below hb, bstep hJ.2.2.2 (Nat.le_of_lt hJ.1.lt) hb⟩ hb (by have := hA.low (heap_lt hJ.2.2.1); simpa [strs, List.map_take, List.map_drop] using this)
    refine Inv.from_cons _ _ _ _ rfl (fun _ a w hJ hF F K hK => ?_) ?_
    · obtain ⟨⟨l⟩, ds⟩ := a
      have hsz : l.length = 40 := hF.size
      obtain ⟨x0, x1, x2, x3, x4, x5, x6, x7, x8, x9, x10, x11, x12, x13, x14, x15, x16, x17, x18, x19, x20, x21, x22, x23, x24, x25, x26, x27, x28, x29, x30, x31, x32, x33, x34, x35, x36, x37, x38, x39, rfl⟩ := lit40 l hsz
      all_goals
        obtain rfl : ds = [] := hF.defers
        have f6 : SlO (g + 2) (strs (n.keys.take a ++ ([key] ++ n.keys.drop e))) x31 w := F 6 (by kernel_rfl) 31 rfl
        have f13 : SlO (g + 2) (strs (n.vals.take a ++ ([value] ++ n.vals.drop e))) x38 w := F 13 (by kernel_rfl) 38 rfl
        clear F hF
        have hJ1 := hJ
        obtain ⟨⟨c0, c1, c2, c3, _⟩, _, _, _⟩ := hJ1
        obtain ⟨A1, m1, k1, rfl⟩ := f6.form
        obtain ⟨A2, m2, k2, rfl⟩ := f13.form
        go_simp
        exact hK _ _ hJ (Below.refl _ _) ⟨_, _, _, rfl, f6, f13, slo_none⟩
    refine Inv.from_skip _ _ _ _ rfl ?_
    exact Inv.from_end _ _ _ _ (by decide +kernel)
  · intro o ho a w hJ hF F K hK
    injection (show some _ = some o from ho) with ho
    subst ho
    obtain ⟨⟨l⟩, ds⟩ := a
    have hsz : l.length = 40 := hF.size
    obtain ⟨x0, x1, x2, x3, x4, x5, x6, x7, x8, x9, x10, x11, x12, x13, x14, x15, x16, x17, x18, x19, x20, x21, x22, x23, x24, x25, x26, x27, x28, x29, x30, x31, x32, x33, x34, x35, x36, x37, x38, x39, rfl⟩ := lit40 l hsz
    all_goals
      obtain rfl : ds = [] := hF.defers
      obtain rfl : x1 = .string key := hF.slot 1 (by kernel_rfl)
      obtain rfl : x2 = .string value := hF.slot 2 (by kernel_rfl)
      obtain rfl : x3 = .pointer (some ⟨g, 0, none⟩) := hF.slot 3 (by kernel_rfl)
      obtain rfl : x6 = .pointer (some ⟨g + 1, 0, none⟩) := hF.slot 6 (by kernel_rfl)
      obtain rfl : x7 = .int .i64 (a : Int) := hF.slot 7 (by kernel_rfl)
      obtain rfl : x9 = .int .i64 (e : Int) := hF.slot 9 (by kernel_rfl)
      have f0 : x25 = .pointer (some ⟨g, 1, none⟩) := F 0 (by decide) 25 rfl
      have f1 : x26 = .slice h.K n.keys.length h.kc := F 1 (by decide) 26 rfl
      have f2 : x27 = .int .i64 (a : Int) := F 2 (by decide) 27 rfl
      have f3 : x28 = .int .i64 (e : Int) := F 3 (by decide) 28 rfl
      have f4 : x29 = .string key := F 4 (by decide) 29 rfl
      have f5 : SlA [.string key] x30 w := F 5 (by decide) 30 rfl
      have f6 : SlO (g + 2) (strs (n.keys.take a ++ ([key] ++ n.keys.drop e))) x31 w := F 6 (by decide) 31 rfl
      have f7 : x32 = .pointer (some ⟨g, 2, none⟩) := F 7 (by decide) 32 rfl
      have f8 : x33 = .slice h.V n.vals.length h.vc := F 8 (by decide) 33 rfl
      have f9 : x34 = .int .i64 (a : Int) := F 9 (by decide) 34 rfl
      have f10 : x35 = .int .i64 (e : Int) := F 10 (by decide) 35 rfl
      have f11 : x36 = .string value := F 11 (by decide) 36 rfl
      have f12 : SlA [.string value] x37 w := F 12 (by decide) 37 rfl
      have f13 : SlO (g + 2) (strs (n.vals.take a ++ ([value] ++ n.vals.drop e))) x38 w := F 13 (by decide) 38 rfl
      have f14 : NvO (g + 2) ⟨true, n.keys.take a ++ ([key] ++ n.keys.drop e), n.vals.take a ++ ([value] ++ n.vals.drop e), []⟩ x39 w := F 14 (by decide) 39 rfl
      subst f0
      subst f1
      subst f2
      subst f3
      subst f4
      subst f7
      subst f8
      subst f9
      subst f10
      subst f11
      clear F hF
      have hJ1 := hJ
      obtain ⟨⟨c0, c1, c2, c3, _⟩, _, _, _⟩ := hJ1
      have hv := f14
      obtain ⟨a', b', c', rfl, fa, fb, fc⟩ := f14
      obtain ⟨A1, m1, k1, rfl⟩ := fa.form
      obtain ⟨A2, m2, k2, rfl⟩ := fb.form
      obtain ⟨A3, m3, k3, rfl⟩ := fc.form
      have hat := hJ.2.2.1
      obtain ⟨q0, q1, q2, q3, z0, z1, z2, z3⟩ := hat.f4
      clear fa fb fc
      have HV := Lib.hid (hv.st4 (g := g + 1) (a := .bool true) (b := .slice A1 m1 k1) (c := .slice A2 m2 k2) (d := .slice A3 m3 k3) (by omega)).nv
      have HA := Lib.hid (set4 hat (.bool true) (.slice A1 m1 k1) (.slice A2 m2 k2) (.slice A3 m3 k3))
      have HB := Lib.hid (below4 hJ.2.2.2 (show g ≤ g + 1 by omega) (.bool true) (.slice A1 m1 k1) (.slice A2 m2 k2) (.slice A3 m3 k3))
      clear hJ hv hat c0 c1 c2 c3
      go_simp
      refine hK _ _ ?_
      clear hK
      go_wp2_with fail
      refine bodyPost_ret (results_cell_row rfl _ _ (g + 1) 25 _ (0, 0) _ rfl HA.out Try.underlying25 rfl (by kernel_rfl)) rfl ?_
      exact ⟨_, rfl, HV.out, by rw [HG.out]; exact HB.out⟩
  · intro hq; exact absurd hq (by decide +kernel)
set_option maxRecDepth 100000 in
set_option maxHeartbeats 6400000 in
theorem put_false (W : World) (n : Nd) (h : Hd) (key value : ByteArray) (hl : Lay W n h) (hs : Small n) (hu : Up n.keys) (hleaf : n.leaf = true) (hhas : has n.keys key = false) (e : Nat) (he : e = at_ n key) :
    Calls Try.prog 26 #[nv n h, .string key, .string value] W fun e' w' => ∃ v, e' = .returned v ∧ Nv (putP n key value (at_ n key) e) v w' ∧ Below W.heap.size W w' := by
  have HS := Lib.hid hs
  have hb1 := box_below W n h
  have hbx := bx_new W n h
  have b2 := al (box W n h) (.cells #[.bool false, .slice none 0 0, .slice none 0 0, .slice none 0 0] 25)
  have hat := at_new (box W n h) #[.bool false, .slice none 0 0, .slice none 0 0, .slice none 0 0] 25
  have hsz : (box W n h).heap.size = W.heap.size + 1 := by simp
  rw [hsz] at hat
  have hbx2 := hbx.below b2
  have hl2 := (hl.below hb1).below b2
  have hB2 := Below.step hb1 b2
  obtain ⟨w2, hw2⟩ : ∃ v, v = (box W n h).alloc (.cells #[.bool false, .slice none 0 0, .slice none 0 0, .slice none 0 0] 25) := ⟨_, rfl⟩
  rw [← hw2] at hat hbx2 hl2 hB2
  unfold box at hw2
  have HW2 := Lib.hid hw2
  have HJ := Lib.hid (fun w' (hb : Below w2.heap.size w2 w') => show Bx w' W.heap.size n h ∧ Lay w' n h ∧ At w' (W.heap.size + 1) 25 #[.bool false, .slice none 0 0, .slice none 0 0, .slice none 0 0] ∧ Below W.heap.size W w' from ⟨hbx2.below hb, hl2.below hb, hat.below hb, bstep hB2 hB2.size hb⟩)
  have hfi := find_any w2 n h key hl2 hu (by have := hs.k; omega)
  have hal : at_ n key ≤ 1000 := by have := at_le n key; have := hs.k; omega
  obtain ⟨c0, c1, c2, c3, _⟩ := hbx2
  have HLF := Lib.hid hleaf
  clear hw2 hat hl2 hB2 hb1 hbx b2 hsz hs hl hu
  rw [hhas] at hfi
  unfold nv at hfi
  rw [hleaf] at hfi
  have HE := Lib.hid he
  rw [hleaf] at c0
  generalize at_ n key = a at *
  clear hhas he
  have hleaf := HLF.out
  go_enter Try.func26, Try.ntmps26
  go_wp2_with fail
  rw [hleaf] at HW2
  rw [← HW2.out]
  clear HW2
  refine hfi.mono ?_
  rintro e' w3 ⟨rfl, b3⟩
  have hJ3 := HJ.out w3 b3
  clear hfi HJ b3 c0 c1 c2 c3
  go_wp2_with fail
  have hJ0 : (fun w' : World => Bx w' W.heap.size n h ∧ Lay w' n h ∧ At w' (W.heap.size + 1) 25 #[.bool false, .slice none 0 0, .slice none 0 0, .slice none 0 0] ∧ Below W.heap.size W w') (World.drew w3) := ⟨hJ3.1.below (Below.refl _ _).drew, hJ3.2.1.below (Below.refl _ _).drew, hJ3.2.2.1.below (Below.refl _ _).drew, hJ3.2.2.2.drew⟩
  clear hJ3
  dsimp only at hJ0
  have hev : (a : Int) = (a : Int) := by have := HE.out; omega
  try rw [hev]
  clear hev
  generalize hg : W.heap.size = g at *
  have HG := Lib.hid hg
  clear hg hleaf
  refine wp_region_any (by kernel_rfl) ?_
  change wpAny _ _ _ _ _ _ _ (World.drew _)
  refine Inv.inv_any (fun (i : Nat) (v : Value) (w : World) => match i with | 0 => v = .pointer (some ⟨g, 1, none⟩) | 1 => v = .slice h.K n.keys.length h.kc | 2 => v = .int .i64 (a : Int) | 3 => v = .int .i64 (a : Int) | 4 => v = .string key | 5 => SlA [.string key] v w | 6 => SlO (g + 2) (strs (n.keys.take a ++ ([key] ++ n.keys.drop e))) v w | 7 => v = .pointer (some ⟨g, 2, none⟩) | 8 => v = .slice h.V n.vals.length h.vc | 9 => v = .int .i64 (a : Int) | 10 => v = .int .i64 (a : Int) | 11 => v = .string value | 12 => SlA [.string value] v w | 13 => SlO (g + 2) (strs (n.vals.take a ++ ([value] ++ n.vals.drop e))) v w | 14 => NvO (g + 2) ⟨true, n.keys.take a ++ ([key] ++ n.keys.drop e), n.vals.take a ++ ([value] ++ n.vals.drop e), []⟩ v w | _ => True) (fun w' : World => Bx w' g n h ∧ Lay w' n h ∧ At w' (g + 1) 25 #[.bool false, .slice none 0 0, .slice none 0 0, .slice none 0 0] ∧ Below g W w') _ 15 40 rfl rfl rfl (by kernel_rfl) (by kernel_rfl) hJ0 ?_ ?_ ?_ ?_
  · intro j v w w' h hb
    match j, h with
    | 0, h => exact h
    | 1, h => exact h
    | 2, h => exact h
    | 3, h => exact h
    | 4, h => exact h
    | 5, h => exact SlA.below h hb
    | 6, h => exact SlO.below h hb
    | 7, h => exact h
    | 8, h => exact h
    | 9, h => exact h
    | 10, h => exact h
    | 11, h => exact h
    | 12, h => exact SlA.below h hb
    | 13, h => exact SlO.below h hb
    | 14, h => exact NvO.below h hb
    | 15, _ => exact trivial
    | (_ + 16), _ => exact trivial
  · skip
    refine Inv.from_cons _ _ _ _ rfl (fun _ a w hJ hF F K hK => ?_) ?_
    · obtain ⟨⟨l⟩, ds⟩ := a
      have hsz : l.length = 40 := hF.size
      obtain ⟨x0, x1, x2, x3, x4, x5, x6, x7, x8, x9, x10, x11, x12, x13, x14, x15, x16, x17, x18, x19, x20, x21, x22, x23, x24, x25, x26, x27, x28, x29, x30, x31, x32, x33, x34, x35, x36, x37, x38, x39, rfl⟩ := lit40 l hsz
      all_goals
        obtain rfl : ds = [] := hF.defers
        obtain rfl : x3 = .pointer (some ⟨g, 0, none⟩) := hF.slot 3 (by kernel_rfl)
        clear F hF
        have hJ1 := hJ
        obtain ⟨⟨c0, c1, c2, c3, _⟩, _, _, _⟩ := hJ1
        go_simp
        exact hK (.pointer (some ⟨g, 1, none⟩)) _ hJ (Below.refl _ _) rfl
    refine Inv.from_cons _ _ _ _ rfl (fun _ a w hJ hF F K hK => ?_) ?_
    · obtain ⟨⟨l⟩, ds⟩ := a
      have hsz : l.length = 40 := hF.size
      obtain ⟨x0, x1, x2, x3, x4, x5, x6, x7, x8, x9, x10, x11, x12, x13, x14, x15, x16, x17, x18, x19, x20, x21, x22, x23, x24, x25, x26, x27, x28, x29, x30, x31, x32, x33, x34, x35, x36, x37, x38, x39, rfl⟩ := lit40 l hsz
      all_goals
        obtain rfl : ds = [] := hF.defers
        have f0 : x25 = .pointer (some ⟨g, 1, none⟩) := F 0 (by kernel_rfl) 25 rfl
        subst f0
        clear F hF
        have hJ1 := hJ
        obtain ⟨⟨c0, c1, c2, c3, _⟩, _, _, _⟩ := hJ1
        go_simp
        exact hK (.slice h.K n.keys.length h.kc) _ hJ (Below.refl _ _) rfl
    refine Inv.from_cons _ _ _ _ rfl (fun _ a w hJ hF F K hK => ?_) ?_
    · obtain ⟨⟨l⟩, ds⟩ := a
      have hsz : l.length = 40 := hF.size
      obtain ⟨x0, x1, x2, x3, x4, x5, x6, x7, x8, x9, x10, x11, x12, x13, x14, x15, x16, x17, x18, x19, x20, x21, x22, x23, x24, x25, x26, x27, x28, x29, x30, x31, x32, x33, x34, x35, x36, x37, x38, x39, rfl⟩ := lit40 l hsz
      all_goals
        obtain rfl : ds = [] := hF.defers
        obtain rfl : x7 = .int .i64 (a : Int) := hF.slot 7 (by kernel_rfl)
        clear F hF
        have hJ1 := hJ
        obtain ⟨⟨c0, c1, c2, c3, _⟩, _, _, _⟩ := hJ1
        go_simp
        exact hK (.int .i64 (a : Int)) _ hJ (Below.refl _ _) rfl
    refine Inv.from_cons _ _ _ _ rfl (fun _ a w hJ hF F K hK => ?_) ?_
    · obtain ⟨⟨l⟩, ds⟩ := a
      have hsz : l.length = 40 := hF.size
      obtain ⟨x0, x1, x2, x3, x4, x5, x6, x7, x8, x9, x10, x11, x12, x13, x14, x15, x16, x17, x18, x19, x20, x21, x22, x23, x24, x25, x26, x27, x28, x29, x30, x31, x32, x33, x34, x35, x36, x37, x38, x39, rfl⟩ := lit40 l hsz
      all_goals
        obtain rfl : ds = [] := hF.defers
        obtain rfl : x9 = .int .i64 (a : Int) := hF.slot 9 (by kernel_rfl)
        clear F hF
        have hJ1 := hJ
        obtain ⟨⟨c0, c1, c2, c3, _⟩, _, _, _⟩ := hJ1
        go_simp
        exact hK (.int .i64 (a : Int)) _ hJ (Below.refl _ _) rfl
    refine Inv.from_cons _ _ _ _ rfl (fun _ a w hJ hF F K hK => ?_) ?_
    · obtain ⟨⟨l⟩, ds⟩ := a
      have hsz : l.length = 40 := hF.size
      obtain ⟨x0, x1, x2, x3, x4, x5, x6, x7, x8, x9, x10, x11, x12, x13, x14, x15, x16, x17, x18, x19, x20, x21, x22, x23, x24, x25, x26, x27, x28, x29, x30, x31, x32, x33, x34, x35, x36, x37, x38, x39, rfl⟩ := lit40 l hsz
      all_goals
        obtain rfl : ds = [] := hF.defers
        obtain rfl : x1 = .string key := hF.slot 1 (by kernel_rfl)
        clear F hF
        have hJ1 := hJ
        obtain ⟨⟨c0, c1, c2, c3, _⟩, _, _, _⟩ := hJ1
        go_simp
        exact hK (.string key) _ hJ (Below.refl _ _) rfl
    refine Inv.from_cons _ _ _ _ rfl (fun _ a w hJ hF F K hK => ?_) ?_
    · obtain ⟨⟨l⟩, ds⟩ := a
      have hsz : l.length = 40 := hF.size
      obtain ⟨x0, x1, x2, x3, x4, x5, x6, x7, x8, x9, x10, x11, x12, x13, x14, x15, x16, x17, x18, x19, x20, x21, x22, x23, x24, x25, x26, x27, x28, x29, x30, x31, x32, x33, x34, x35, x36, x37, x38, x39, rfl⟩ := lit40 l hsz
      all_goals
        obtain rfl : ds = [] := hF.defers
        have f4 : x29 = .string key := F 4 (by kernel_rfl) 29 rfl
        subst f4
        clear F hF
        have hJ1 := hJ
        obtain ⟨⟨c0, c1, c2, c3, _⟩, _, _, _⟩ := hJ1
        go_simp
        exact hK _ _ ⟨hJ.1.below (al _ _), hJ.2.1.below (al _ _), hJ.2.2.1.below (al _ _), bstep hJ.2.2.2 (Nat.le_of_lt hJ.1.lt) (al _ _)⟩ (al _ _) (sl_new _)
    refine Inv.from_cons _ _ _ _ rfl (fun _ a w hJ hF F K hK => ?_) ?_
    · obtain ⟨⟨l⟩, ds⟩ := a
      have hsz : l.length = 40 := hF.size
      obtain ⟨x0, x1, x2, x3, x4, x5, x6, x7, x8, x9, x10, x11, x12, x13, x14, x15, x16, x17, x18, x19, x20, x21, x22, x23, x24, x25, x26, x27, x28, x29, x30, x31, x32, x33, x34, x35, x36, x37, x38, x39, rfl⟩ := lit40 l hsz
      all_goals
        obtain rfl : ds = [] := hF.defers
        have f1 : x26 = .slice h.K n.keys.length h.kc := F 1 (by kernel_rfl) 26 rfl
        subst f1
        have f2 : x27 = .int .i64 (a : Int) := F 2 (by kernel_rfl) 27 rfl
        subst f2
        have f3 : x28 = .int .i64 (a : Int) := F 3 (by kernel_rfl) 28 rfl
        subst f3
        have f5 : SlA [.string key] x30 w := F 5 (by kernel_rfl) 30 rfl
        clear F hF
        have hJ1 := hJ
        obtain ⟨⟨c0, c1, c2, c3, _⟩, _, _, _⟩ := hJ1
        obtain ⟨A5, m5, k5, rfl⟩ := f5.form
        have hh := put_any w h.K n.keys.length h.kc a e (strs n.keys) [.string key] A5 m5 k5 (hJ.2.1.ks) (strs_1 _) f5 (by intro u hu; rw [List.mem_singleton.1 hu]; rfl) (by rw [strs_len]; have := HS.out.k; omega) (by simp) a a rfl (by rw [HE.out])
        clear f5
        go_simp
        (with_reducible refine hh.mono ?_)
        rintro e' w' ⟨A, m', c', rfl, hA, hb⟩
        go_simp
        exact hK _ _ ⟨hJ.1.below hb, hJ.2.1.below hb, hJ.2.2.1.below hb, bstep hJ.2.2.2 (Nat.le_of_lt hJ.1.lt) hb⟩ hb (by have := hA.low (heap_lt hJ.2.2.1); simpa [strs, List.map_take, List.map_drop] using this)
    refine Inv.from_cons _ _ _ _ rfl (fun _ a w hJ hF F K hK => ?_) ?_
    · obtain ⟨⟨l⟩, ds⟩ := a
      have hsz : l.length = 40 := hF.size
      obtain ⟨x0, x1, x2, x3, x4, x5, x6, x7, x8, x9, x10, x11, x12, x13, x14, x15, x16, x17, x18, x19, x20, x21, x22, x23, x24, x25, x26, x27, x28, x29, x30, x31, x32, x33, x34, x35, x36, x37, x38, x39, rfl⟩ := lit40 l hsz
      all_goals
        obtain rfl : ds = [] := hF.defers
        obtain rfl : x3 = .pointer (some ⟨g, 0, none⟩) := hF.slot 3 (by kernel_rfl)
        clear F hF
        have hJ1 := hJ
        obtain ⟨⟨c0, c1, c2, c3, _⟩, _, _, _⟩ := hJ1
        go_simp
        exact hK (.pointer (some ⟨g, 2, none⟩)) _ hJ (Below.refl _ _) rfl
    refine Inv.from_cons _ _ _ _ rfl (fun _ a w hJ hF F K hK => ?_) ?_
    · obtain ⟨⟨l⟩, ds⟩ := a
      have hsz : l.length = 40 := hF.size
      obtain ⟨x0, x1, x2, x3, x4, x5, x6, x7, x8, x9, x10, x11, x12, x13, x14, x15, x16, x17, x18, x19, x20, x21, x22, x23, x24, x25, x26, x27, x28, x29, x30, x31, x32, x33, x34, x35, x36, x37, x38, x39, rfl⟩ := lit40 l hsz
      all_goals
        obtain rfl : ds = [] := hF.defers
        have f7 : x32 = .pointer (some ⟨g, 2, none⟩) := F 7 (by kernel_rfl) 32 rfl
        subst f7
        clear F hF
        have hJ1 := hJ
        obtain ⟨⟨c0, c1, c2, c3, _⟩, _, _, _⟩ := hJ1
        go_simp
        exact hK (.slice h.V n.vals.length h.vc) _ hJ (Below.refl _ _) rfl
    refine Inv.from_cons _ _ _ _ rfl (fun _ a w hJ hF F K hK => ?_) ?_
    · obtain ⟨⟨l⟩, ds⟩ := a
      have hsz : l.length = 40 := hF.size
      obtain ⟨x0, x1, x2, x3, x4, x5, x6, x7, x8, x9, x10, x11, x12, x13, x14, x15, x16, x17, x18, x19, x20, x21, x22, x23, x24, x25, x26, x27, x28, x29, x30, x31, x32, x33, x34, x35, x36, x37, x38, x39, rfl⟩ := lit40 l hsz
      all_goals
        obtain rfl : ds = [] := hF.defers
        obtain rfl : x7 = .int .i64 (a : Int) := hF.slot 7 (by kernel_rfl)
        clear F hF
        have hJ1 := hJ
        obtain ⟨⟨c0, c1, c2, c3, _⟩, _, _, _⟩ := hJ1
        go_simp
        exact hK (.int .i64 (a : Int)) _ hJ (Below.refl _ _) rfl
    refine Inv.from_cons _ _ _ _ rfl (fun _ a w hJ hF F K hK => ?_) ?_
    · obtain ⟨⟨l⟩, ds⟩ := a
      have hsz : l.length = 40 := hF.size
      obtain ⟨x0, x1, x2, x3, x4, x5, x6, x7, x8, x9, x10, x11, x12, x13, x14, x15, x16, x17, x18, x19, x20, x21, x22, x23, x24, x25, x26, x27, x28, x29, x30, x31, x32, x33, x34, x35, x36, x37, x38, x39, rfl⟩ := lit40 l hsz
      all_goals
        obtain rfl : ds = [] := hF.defers
        obtain rfl : x9 = .int .i64 (a : Int) := hF.slot 9 (by kernel_rfl)
        clear F hF
        have hJ1 := hJ
        obtain ⟨⟨c0, c1, c2, c3, _⟩, _, _, _⟩ := hJ1
        go_simp
        exact hK (.int .i64 (a : Int)) _ hJ (Below.refl _ _) rfl
    refine Inv.from_cons _ _ _ _ rfl (fun _ a w hJ hF F K hK => ?_) ?_
    · obtain ⟨⟨l⟩, ds⟩ := a
      have hsz : l.length = 40 := hF.size
      obtain ⟨x0, x1, x2, x3, x4, x5, x6, x7, x8, x9, x10, x11, x12, x13, x14, x15, x16, x17, x18, x19, x20, x21, x22, x23, x24, x25, x26, x27, x28, x29, x30, x31, x32, x33, x34, x35, x36, x37, x38, x39, rfl⟩ := lit40 l hsz
      all_goals
        obtain rfl : ds = [] := hF.defers
        obtain rfl : x2 = .string value := hF.slot 2 (by kernel_rfl)
        clear F hF
        have hJ1 := hJ
        obtain ⟨⟨c0, c1, c2, c3, _⟩, _, _, _⟩ := hJ1
        go_simp
        exact hK (.string value) _ hJ (Below.refl _ _) rfl
    refine Inv.from_cons _ _ _ _ rfl (fun _ a w hJ hF F K hK => ?_) ?_
    · obtain ⟨⟨l⟩, ds⟩ := a
      have hsz : l.length = 40 := hF.size
      obtain ⟨x0, x1, x2, x3, x4, x5, x6, x7, x8, x9, x10, x11, x12, x13, x14, x15, x16, x17, x18, x19, x20, x21, x22, x23, x24, x25, x26, x27, x28, x29, x30, x31, x32, x33, x34, x35, x36, x37, x38, x39, rfl⟩ := lit40 l hsz
      all_goals
        obtain rfl : ds = [] := hF.defers
        have f11 : x36 = .string value := F 11 (by kernel_rfl) 36 rfl
        subst f11
        clear F hF
        have hJ1 := hJ
        obtain ⟨⟨c0, c1, c2, c3, _⟩, _, _, _⟩ := hJ1
        go_simp
        exact hK _ _ ⟨hJ.1.below (al _ _), hJ.2.1.below (al _ _), hJ.2.2.1.below (al _ _), bstep hJ.2.2.2 (Nat.le_of_lt hJ.1.lt) (al _ _)⟩ (al _ _) (sl_new _)
    refine Inv.from_cons _ _ _ _ rfl (fun _ a w hJ hF F K hK => ?_) ?_
    · obtain ⟨⟨l⟩, ds⟩ := a
      have hsz : l.length = 40 := hF.size
      obtain ⟨x0, x1, x2, x3, x4, x5, x6, x7, x8, x9, x10, x11, x12, x13, x14, x15, x16, x17, x18, x19, x20, x21, x22, x23, x24, x25, x26, x27, x28, x29, x30, x31, x32, x33, x34, x35, x36, x37, x38, x39, rfl⟩ := lit40 l hsz
      all_goals
        obtain rfl : ds = [] := hF.defers
        have f6 : SlO (g + 2) (strs (n.keys.take a ++ ([key] ++ n.keys.drop e))) x31 w := F 6 (by kernel_rfl) 31 rfl
        have f8 : x33 = .slice h.V n.vals.length h.vc := F 8 (by kernel_rfl) 33 rfl
        subst f8
        have f9 : x34 = .int .i64 (a : Int) := F 9 (by kernel_rfl) 34 rfl
        subst f9
        have f10 : x35 = .int .i64 (a : Int) := F 10 (by kernel_rfl) 35 rfl
        subst f10
        have f12 : SlA [.string value] x37 w := F 12 (by kernel_rfl) 37 rfl
        clear F hF
        have hJ1 := hJ
        obtain ⟨⟨c0, c1, c2, c3, _⟩, _, _, _⟩ := hJ1
        obtain ⟨A5, m5, k5, rfl⟩ := f12.form
        have hh := put_any w h.V n.vals.length h.vc a e (strs n.vals) [.string value] A5 m5 k5 (hJ.2.1.vs) (strs_1 _) f12 (by intro u hu; rw [List.mem_singleton.1 hu]; rfl) (by rw [strs_len]; have := HS.out.v; omega) (by simp) a a rfl (by rw [HE.out])
        clear f12
        go_simp
        (with_reducible refine hh.mono ?_)
        rintro e' w' ⟨A, m', c', rfl, hA, hb⟩
        go_simp
        exact hK _ _ ⟨hJ.1.below hb, hJ.2.1.below hb, hJ.2.2.1.below hb, bstep hJ.2.2.2 (Nat.le_of_lt hJ.1.lt) hb⟩ hb (by have := hA.low (heap_lt hJ.2.2.1); simpa [strs, List.map_take, List.map_drop] using this)
    refine Inv.from_cons _ _ _ _ rfl (fun _ a w hJ hF F K hK => ?_) ?_
    · obtain ⟨⟨l⟩, ds⟩ := a
      have hsz : l.length = 40 := hF.size
      obtain ⟨x0, x1, x2, x3, x4, x5, x6, x7, x8, x9, x10, x11, x12, x13, x14, x15, x16, x17, x18, x19, x20, x21, x22, x23, x24, x25, x26, x27, x28, x29, x30, x31, x32, x33, x34, x35, x36, x37, x38, x39, rfl⟩ := lit40 l hsz
      all_goals
        obtain rfl : ds = [] := hF.defers
        have f6 : SlO (g + 2) (strs (n.keys.take a ++ ([key] ++ n.keys.drop e))) x31 w := F 6 (by kernel_rfl) 31 rfl
        have f13 : SlO (g + 2) (strs (n.vals.take a ++ ([value] ++ n.vals.drop e))) x38 w := F 13 (by kernel_rfl) 38 rfl
        clear F hF
        have hJ1 := hJ
        obtain ⟨⟨c0, c1, c2, c3, _⟩, _, _, _⟩ := hJ1
        obtain ⟨A1, m1, k1, rfl⟩ := f6.form
        obtain ⟨A2, m2, k2, rfl⟩ := f13.form
        go_simp
        exact hK _ _ hJ (Below.refl _ _) ⟨_, _, _, rfl, f6, f13, slo_none⟩
    refine Inv.from_skip _ _ _ _ rfl ?_
    exact Inv.from_end _ _ _ _ (by decide +kernel)
  · intro o ho a w hJ hF F K hK
    injection (show some _ = some o from ho) with ho
    subst ho
    obtain ⟨⟨l⟩, ds⟩ := a
    have hsz : l.length = 40 := hF.size
    obtain ⟨x0, x1, x2, x3, x4, x5, x6, x7, x8, x9, x10, x11, x12, x13, x14, x15, x16, x17, x18, x19, x20, x21, x22, x23, x24, x25, x26, x27, x28, x29, x30, x31, x32, x33, x34, x35, x36, x37, x38, x39, rfl⟩ := lit40 l hsz
    all_goals
      obtain rfl : ds = [] := hF.defers
      obtain rfl : x1 = .string key := hF.slot 1 (by kernel_rfl)
      obtain rfl : x2 = .string value := hF.slot 2 (by kernel_rfl)
      obtain rfl : x3 = .pointer (some ⟨g, 0, none⟩) := hF.slot 3 (by kernel_rfl)
      obtain rfl : x6 = .pointer (some ⟨g + 1, 0, none⟩) := hF.slot 6 (by kernel_rfl)
      obtain rfl : x7 = .int .i64 (a : Int) := hF.slot 7 (by kernel_rfl)
      obtain rfl : x9 = .int .i64 (a : Int) := hF.slot 9 (by kernel_rfl)
      have f0 : x25 = .pointer (some ⟨g, 1, none⟩) := F 0 (by decide) 25 rfl
      have f1 : x26 = .slice h.K n.keys.length h.kc := F 1 (by decide) 26 rfl
      have f2 : x27 = .int .i64 (a : Int) := F 2 (by decide) 27 rfl
      have f3 : x28 = .int .i64 (a : Int) := F 3 (by decide) 28 rfl
      have f4 : x29 = .string key := F 4 (by decide) 29 rfl
      have f5 : SlA [.string key] x30 w := F 5 (by decide) 30 rfl
      have f6 : SlO (g + 2) (strs (n.keys.take a ++ ([key] ++ n.keys.drop e))) x31 w := F 6 (by decide) 31 rfl
      have f7 : x32 = .pointer (some ⟨g, 2, none⟩) := F 7 (by decide) 32 rfl
      have f8 : x33 = .slice h.V n.vals.length h.vc := F 8 (by decide) 33 rfl
      have f9 : x34 = .int .i64 (a : Int) := F 9 (by decide) 34 rfl
      have f10 : x35 = .int .i64 (a : Int) := F 10 (by decide) 35 rfl
      have f11 : x36 = .string value := F 11 (by decide) 36 rfl
      have f12 : SlA [.string value] x37 w := F 12 (by decide) 37 rfl
      have f13 : SlO (g + 2) (strs (n.vals.take a ++ ([value] ++ n.vals.drop e))) x38 w := F 13 (by decide) 38 rfl
      have f14 : NvO (g + 2) ⟨true, n.keys.take a ++ ([key] ++ n.keys.drop e), n.vals.take a ++ ([value] ++ n.vals.drop e), []⟩ x39 w := F 14 (by decide) 39 rfl
      subst f0
      subst f1
      subst f2
      subst f3
      subst f4
      subst f7
      subst f8
      subst f9
      subst f10
      subst f11
      clear F hF
      have hJ1 := hJ
      obtain ⟨⟨c0, c1, c2, c3, _⟩, _, _, _⟩ := hJ1
      have hv := f14
      obtain ⟨a', b', c', rfl, fa, fb, fc⟩ := f14
      obtain ⟨A1, m1, k1, rfl⟩ := fa.form
      obtain ⟨A2, m2, k2, rfl⟩ := fb.form
      obtain ⟨A3, m3, k3, rfl⟩ := fc.form
      have hat := hJ.2.2.1
      obtain ⟨q0, q1, q2, q3, z0, z1, z2, z3⟩ := hat.f4
      clear fa fb fc
      have HV := Lib.hid (hv.st4 (g := g + 1) (a := .bool true) (b := .slice A1 m1 k1) (c := .slice A2 m2 k2) (d := .slice A3 m3 k3) (by omega)).nv
      have HA := Lib.hid (set4 hat (.bool true) (.slice A1 m1 k1) (.slice A2 m2 k2) (.slice A3 m3 k3))
      have HB := Lib.hid (below4 hJ.2.2.2 (show g ≤ g + 1 by omega) (.bool true) (.slice A1 m1 k1) (.slice A2 m2 k2) (.slice A3 m3 k3))
      clear hJ hv hat c0 c1 c2 c3
      go_simp
      refine hK _ _ ?_
      clear hK
      go_wp2_with fail
      refine bodyPost_ret (results_cell_row rfl _ _ (g + 1) 25 _ (0, 0) _ rfl HA.out Try.underlying25 rfl (by kernel_rfl)) rfl ?_
      exact ⟨_, rfl, HV.out, by rw [HG.out]; exact HB.out⟩
  · intro hq; exact absurd hq (by decide +kernel)
set_option maxRecDepth 100000 in
set_option maxHeartbeats 6400000 in
theorem drop_true (W : World) (n : Nd) (h : Hd) (key : ByteArray) (hl : Lay W n h) (hs : Small n) (hu : Up n.keys) (hleaf : n.leaf = true) (hhas : has n.keys key = true) (e : Nat) (he : e = at_ n key + 1) :
    Calls Try.prog 28 #[nv n h, .string key] W fun e' w' => ∃ v, e' = .returned v ∧ Nv (dropP n (at_ n key) e) v w' ∧ Below W.heap.size W w' := by
  have HS := Lib.hid hs
  have hb1 := box_below W n h
  have hbx := bx_new W n h
  have b2 := al (box W n h) (.cells #[.bool false, .slice none 0 0, .slice none 0 0, .slice none 0 0] 25)
  have hat := at_new (box W n h) #[.bool false, .slice none 0 0, .slice none 0 0, .slice none 0 0] 25
  have hsz : (box W n h).heap.size = W.heap.size + 1 := by simp
  rw [hsz] at hat
  have hbx2 := hbx.below b2
  have hl2 := (hl.below hb1).below b2
  have hB2 := Below.step hb1 b2
  obtain ⟨w2, hw2⟩ : ∃ v, v = (box W n h).alloc (.cells #[.bool false, .slice none 0 0, .slice none 0 0, .slice none 0 0] 25) := ⟨_, rfl⟩
  rw [← hw2] at hat hbx2 hl2 hB2
  unfold box at hw2
  have HW2 := Lib.hid hw2
  have HJ := Lib.hid (fun w' (hb : Below w2.heap.size w2 w') => show Bx w' W.heap.size n h ∧ Lay w' n h ∧ At w' (W.heap.size + 1) 25 #[.bool false, .slice none 0 0, .slice none 0 0, .slice none 0 0] ∧ Below W.heap.size W w' from ⟨hbx2.below hb, hl2.below hb, hat.below hb, bstep hB2 hB2.size hb⟩)
  have hfi := find_any w2 n h key hl2 hu (by have := hs.k; omega)
  have hal : at_ n key ≤ 1000 := by have := at_le n key; have := hs.k; omega
  obtain ⟨c0, c1, c2, c3, _⟩ := hbx2
  have HLF := Lib.hid hleaf
  clear hw2 hat hl2 hB2 hb1 hbx b2 hsz hs hl hu
  rw [hhas] at hfi
  unfold nv at hfi
  rw [hleaf] at hfi
  have HE := Lib.hid he
  have HAL := Lib.hid hal
  rw [hleaf] at c0
  generalize at_ n key = a at *
  clear hhas he c0 c1 c2 c3
  rw [hleaf] at HW2
  go_enter Try.func28, Try.ntmps28
  go_wp2_with fail
  rw [← HW2.out]
  clear HW2
  refine hfi.mono ?_
  rintro e' w3 ⟨rfl, b3⟩
  have hJ3 := HJ.out w3 b3
  clear hfi HJ b3
  obtain ⟨c0, c1, c2, c3, _⟩ := hJ3.1
  rw [HLF.out] at c0
  go_wp2_with fail
  clear c0 c1 c2 c3
  have hJ0 : (fun w' : World => Bx w' W.heap.size n h ∧ Lay w' n h ∧ At w' (W.heap.size + 1) 25 #[.bool false, .slice none 0 0, .slice none 0 0, .slice none 0 0] ∧ Below W.heap.size W w') (World.drew w3) := ⟨hJ3.1.below (Below.refl _ _).drew, hJ3.2.1.below (Below.refl _ _).drew, hJ3.2.2.1.below (Below.refl _ _).drew, hJ3.2.2.2.drew⟩
  clear hJ3
  dsimp only at hJ0
  generalize hg : W.heap.size = g at *
  have HG := Lib.hid hg
  clear hg hleaf
  refine wp_region_any (by kernel_rfl) ?_
  change wpAny _ _ _ _ _ _ _ (World.drew _)
  refine Inv.inv_any (fun (i : Nat) (v : Value) (w : World) => match i with | 0 => v = .pointer (some ⟨g, 1, none⟩) | 1 => v = .slice h.K n.keys.length h.kc | 2 => v = .int .i64 (a : Int) | 3 => v = .int .i64 (a : Int) | 4 => v = .int .i64 ((a : Int) + 1) | 5 => SlO (g + 2) (strs (n.keys.take a ++ ([] ++ n.keys.drop e))) v w | 6 => v = .pointer (some ⟨g, 2, none⟩) | 7 => v = .slice h.V n.vals.length h.vc | 8 => v = .int .i64 (a : Int) | 9 => v = .int .i64 (a : Int) | 10 => v = .int .i64 ((a : Int) + 1) | 11 => SlO (g + 2) (strs (n.vals.take a ++ ([] ++ n.vals.drop e))) v w | 12 => NvO (g + 2) ⟨true, n.keys.take a ++ ([] ++ n.keys.drop e), n.vals.take a ++ ([] ++ n.vals.drop e), []⟩ v w | _ => True) (fun w' : World => Bx w' g n h ∧ Lay w' n h ∧ At w' (g + 1) 25 #[.bool false, .slice none 0 0, .slice none 0 0, .slice none 0 0] ∧ Below g W w') _ 13 35 rfl rfl rfl (by kernel_rfl) (by kernel_rfl) hJ0 ?_ ?_ ?_ ?_
  · intro j v w w' h hb
    match j, h with
    | 0, h => exact h
    | 1, h => exact h
    | 2, h => exact h
    | 3, h => exact h
    | 4, h => exact h
    | 5, h => exact SlO.below h hb
    | 6, h => exact h
    | 7, h => exact h
    | 8, h => exact h
    | 9, h => exact h
    | 10, h => exact h
    | 11, h => exact SlO.below h hb
    | 12, h => exact NvO.below h hb
    | 13, _ => exact trivial
    | (_ + 14), _ => exact trivial
  · skip
    refine Inv.from_cons _ _ _ _ rfl (fun _ a w hJ hF F K hK => ?_) ?_
    · obtain ⟨⟨l⟩, ds⟩ := a
      have hsz : l.length = 35 := hF.size
      obtain ⟨x0, x1, x2, x3, x4, x5, x6, x7, x8, x9, x10, x11, x12, x13, x14, x15, x16, x17, x18, x19, x20, x21, x22, x23, x24, x25, x26, x27, x28, x29, x30, x31, x32, x33, x34, rfl⟩ := lit35 l hsz
      all_goals
        obtain rfl : ds = [] := hF.defers
        obtain rfl : x2 = .pointer (some ⟨g, 0, none⟩) := hF.slot 2 (by kernel_rfl)
        clear F hF
        have hJ1 := hJ
        obtain ⟨⟨c0, c1, c2, c3, _⟩, _, _, _⟩ := hJ1
        go_simp
        exact hK (.pointer (some ⟨g, 1, none⟩)) _ hJ (Below.refl _ _) rfl
    refine Inv.from_cons _ _ _ _ rfl (fun _ a w hJ hF F K hK => ?_) ?_
    · obtain ⟨⟨l⟩, ds⟩ := a
      have hsz : l.length = 35 := hF.size
      obtain ⟨x0, x1, x2, x3, x4, x5, x6, x7, x8, x9, x10, x11, x12, x13, x14, x15, x16, x17, x18, x19, x20, x21, x22, x23, x24, x25, x26, x27, x28, x29, x30, x31, x32, x33, x34, rfl⟩ := lit35 l hsz
      all_goals
        obtain rfl : ds = [] := hF.defers
        have f0 : x22 = .pointer (some ⟨g, 1, none⟩) := F 0 (by kernel_rfl) 22 rfl
        subst f0
        clear F hF
        have hJ1 := hJ
        obtain ⟨⟨c0, c1, c2, c3, _⟩, _, _, _⟩ := hJ1
        go_simp
        exact hK (.slice h.K n.keys.length h.kc) _ hJ (Below.refl _ _) rfl
    refine Inv.from_cons _ _ _ _ rfl (fun _ a w hJ hF F K hK => ?_) ?_
    · obtain ⟨⟨l⟩, ds⟩ := a
      have hsz : l.length = 35 := hF.size
      obtain ⟨x0, x1, x2, x3, x4, x5, x6, x7, x8, x9, x10, x11, x12, x13, x14, x15, x16, x17, x18, x19, x20, x21, x22, x23, x24, x25, x26, x27, x28, x29, x30, x31, x32, x33, x34, rfl⟩ := lit35 l hsz
      all_goals
        obtain rfl : ds = [] := hF.defers
        obtain rfl : x5 = .int .i64 (a : Int) := hF.slot 5 (by kernel_rfl)
        clear F hF
        have hJ1 := hJ
        obtain ⟨⟨c0, c1, c2, c3, _⟩, _, _, _⟩ := hJ1
        go_simp
        exact hK (.int .i64 (a : Int)) _ hJ (Below.refl _ _) rfl
    refine Inv.from_cons _ _ _ _ rfl (fun _ a w hJ hF F K hK => ?_) ?_
    · obtain ⟨⟨l⟩, ds⟩ := a
      have hsz : l.length = 35 := hF.size
      obtain ⟨x0, x1, x2, x3, x4, x5, x6, x7, x8, x9, x10, x11, x12, x13, x14, x15, x16, x17, x18, x19, x20, x21, x22, x23, x24, x25, x26, x27, x28, x29, x30, x31, x32, x33, x34, rfl⟩ := lit35 l hsz
      all_goals
        obtain rfl : ds = [] := hF.defers
        obtain rfl : x5 = .int .i64 (a : Int) := hF.slot 5 (by kernel_rfl)
        clear F hF
        have hJ1 := hJ
        obtain ⟨⟨c0, c1, c2, c3, _⟩, _, _, _⟩ := hJ1
        go_simp
        exact hK (.int .i64 (a : Int)) _ hJ (Below.refl _ _) rfl
    refine Inv.from_cons _ _ _ _ rfl (fun _ a w hJ hF F K hK => ?_) ?_
    · obtain ⟨⟨l⟩, ds⟩ := a
      have hsz : l.length = 35 := hF.size
      obtain ⟨x0, x1, x2, x3, x4, x5, x6, x7, x8, x9, x10, x11, x12, x13, x14, x15, x16, x17, x18, x19, x20, x21, x22, x23, x24, x25, x26, x27, x28, x29, x30, x31, x32, x33, x34, rfl⟩ := lit35 l hsz
      all_goals
        obtain rfl : ds = [] := hF.defers
        have f3 : x25 = .int .i64 (a : Int) := F 3 (by kernel_rfl) 25 rfl
        subst f3
        clear F hF
        have hJ1 := hJ
        obtain ⟨⟨c0, c1, c2, c3, _⟩, _, _, _⟩ := hJ1
        have hw1 : IntKind.i64.wrap ((a : Int) + 1) = (a : Int) + 1 := IntWalk.i64_in _ (by have := HAL.out; omega)
        go_simp
        exact hK (.int .i64 ((a : Int) + 1)) _ hJ (Below.refl _ _) rfl
    refine Inv.from_cons _ _ _ _ rfl (fun _ a w hJ hF F K hK => ?_) ?_
    · obtain ⟨⟨l⟩, ds⟩ := a
      have hsz : l.length = 35 := hF.size
      obtain ⟨x0, x1, x2, x3, x4, x5, x6, x7, x8, x9, x10, x11, x12, x13, x14, x15, x16, x17, x18, x19, x20, x21, x22, x23, x24, x25, x26, x27, x28, x29, x30, x31, x32, x33, x34, rfl⟩ := lit35 l hsz
      all_goals
        obtain rfl : ds = [] := hF.defers
        have f1 : x23 = .slice h.K n.keys.length h.kc := F 1 (by kernel_rfl) 23 rfl
        subst f1
        have f2 : x24 = .int .i64 (a : Int) := F 2 (by kernel_rfl) 24 rfl
        subst f2
        have f4 : x26 = .int .i64 ((a : Int) + 1) := F 4 (by kernel_rfl) 26 rfl
        subst f4
        clear F hF
        have hJ1 := hJ
        obtain ⟨⟨c0, c1, c2, c3, _⟩, _, _, _⟩ := hJ1
        have hh := put_any w h.K n.keys.length h.kc a e (strs n.keys) [] none 0 0 (hJ.2.1.ks) (strs_1 _) sl_none (by intro u hu; cases hu) (by rw [strs_len]; have := HS.out.k; omega) (by simp) a ((a : Int) + 1) rfl (by rw [HE.out]; rfl)
        go_simp
        (with_reducible refine hh.mono ?_)
        rintro e' w' ⟨A, m', c', rfl, hA, hb⟩
        go_simp
        exact hK _ _ ⟨hJ.1.below hb, hJ.2.1.below hb, hJ.2.2.1.below hb, bstep hJ.2.2.2 (Nat.le_of_lt hJ.1.lt) hb⟩ hb (by have := hA.low (heap_lt hJ.2.2.1); simpa [strs, List.map_take, List.map_drop] using this)
    refine Inv.from_cons _ _ _ _ rfl (fun _ a w hJ hF F K hK => ?_) ?_
    · obtain ⟨⟨l⟩, ds⟩ := a
      have hsz : l.length = 35 := hF.size
      obtain ⟨x0, x1, x2, x3, x4, x5, x6, x7, x8, x9, x10, x11, x12, x13, x14, x15, x16, x17, x18, x19, x20, x21, x22, x23, x24, x25, x26, x27, x28, x29, x30, x31, x32, x33, x34, rfl⟩ := lit35 l hsz
      all_goals
        obtain rfl : ds = [] := hF.defers
        obtain rfl : x2 = .pointer (some ⟨g, 0, none⟩) := hF.slot 2 (by kernel_rfl)
        clear F hF
        have hJ1 := hJ
        obtain ⟨⟨c0, c1, c2, c3, _⟩, _, _, _⟩ := hJ1
        go_simp
        exact hK (.pointer (some ⟨g, 2, none⟩)) _ hJ (Below.refl _ _) rfl
    refine Inv.from_cons _ _ _ _ rfl (fun _ a w hJ hF F K hK => ?_) ?_
    · obtain ⟨⟨l⟩, ds⟩ := a
      have hsz : l.length = 35 := hF.size
      obtain ⟨x0, x1, x2, x3, x4, x5, x6, x7, x8, x9, x10, x11, x12, x13, x14, x15, x16, x17, x18, x19, x20, x21, x22, x23, x24, x25, x26, x27, x28, x29, x30, x31, x32, x33, x34, rfl⟩ := lit35 l hsz
      all_goals
        obtain rfl : ds = [] := hF.defers
        have f6 : x28 = .pointer (some ⟨g, 2, none⟩) := F 6 (by kernel_rfl) 28 rfl
        subst f6
        clear F hF
        have hJ1 := hJ
        obtain ⟨⟨c0, c1, c2, c3, _⟩, _, _, _⟩ := hJ1
        go_simp
        exact hK (.slice h.V n.vals.length h.vc) _ hJ (Below.refl _ _) rfl
    refine Inv.from_cons _ _ _ _ rfl (fun _ a w hJ hF F K hK => ?_) ?_
    · obtain ⟨⟨l⟩, ds⟩ := a
      have hsz : l.length = 35 := hF.size
      obtain ⟨x0, x1, x2, x3, x4, x5, x6, x7, x8, x9, x10, x11, x12, x13, x14, x15, x16, x17, x18, x19, x20, x21, x22, x23, x24, x25, x26, x27, x28, x29, x30, x31, x32, x33, x34, rfl⟩ := lit35 l hsz
      all_goals
        obtain rfl : ds = [] := hF.defers
        obtain rfl : x5 = .int .i64 (a : Int) := hF.slot 5 (by kernel_rfl)
        clear F hF
        have hJ1 := hJ
        obtain ⟨⟨c0, c1, c2, c3, _⟩, _, _, _⟩ := hJ1
        go_simp
        exact hK (.int .i64 (a : Int)) _ hJ (Below.refl _ _) rfl
    refine Inv.from_cons _ _ _ _ rfl (fun _ a w hJ hF F K hK => ?_) ?_
    · obtain ⟨⟨l⟩, ds⟩ := a
      have hsz : l.length = 35 := hF.size
      obtain ⟨x0, x1, x2, x3, x4, x5, x6, x7, x8, x9, x10, x11, x12, x13, x14, x15, x16, x17, x18, x19, x20, x21, x22, x23, x24, x25, x26, x27, x28, x29, x30, x31, x32, x33, x34, rfl⟩ := lit35 l hsz
      all_goals
        obtain rfl : ds = [] := hF.defers
        obtain rfl : x5 = .int .i64 (a : Int) := hF.slot 5 (by kernel_rfl)
        clear F hF
        have hJ1 := hJ
        obtain ⟨⟨c0, c1, c2, c3, _⟩, _, _, _⟩ := hJ1
        go_simp
        exact hK (.int .i64 (a : Int)) _ hJ (Below.refl _ _) rfl
    refine Inv.from_cons _ _ _ _ rfl (fun _ a w hJ hF F K hK => ?_) ?_
    · obtain ⟨⟨l⟩, ds⟩ := a
      have hsz : l.length = 35 := hF.size
      obtain ⟨x0, x1, x2, x3, x4, x5, x6, x7, x8, x9, x10, x11, x12, x13, x14, x15, x16, x17, x18, x19, x20, x21, x22, x23, x24, x25, x26, x27, x28, x29, x30, x31, x32, x33, x34, rfl⟩ := lit35 l hsz
      all_goals
        obtain rfl : ds = [] := hF.defers
        have f9 : x31 = .int .i64 (a : Int) := F 9 (by kernel_rfl) 31 rfl
        subst f9
        clear F hF
        have hJ1 := hJ
        obtain ⟨⟨c0, c1, c2, c3, _⟩, _, _, _⟩ := hJ1
        have hw1 : IntKind.i64.wrap ((a : Int) + 1) = (a : Int) + 1 := IntWalk.i64_in _ (by have := HAL.out; omega)
        go_simp
        exact hK (.int .i64 ((a : Int) + 1)) _ hJ (Below.refl _ _) rfl
    refine Inv.from_cons _ _ _ _ rfl (fun _ a w hJ hF F K hK => ?_) ?_
    · obtain ⟨⟨l⟩, ds⟩ := a
      have hsz : l.length = 35 := hF.size
      obtain ⟨x0, x1, x2, x3, x4, x5, x6, x7, x8, x9, x10, x11, x12, x13, x14, x15, x16, x17, x18, x19, x20, x21, x22, x23, x24, x25, x26, x27, x28, x29, x30, x31, x32, x33, x34, rfl⟩ := lit35 l hsz
      all_goals
        obtain rfl : ds = [] := hF.defers
        have f5 : SlO (g + 2) (strs (n.keys.take a ++ ([] ++ n.keys.drop e))) x27 w := F 5 (by kernel_rfl) 27 rfl
        have f7 : x29 = .slice h.V n.vals.length h.vc := F 7 (by kernel_rfl) 29 rfl
        subst f7
        have f8 : x30 = .int .i64 (a : Int) := F 8 (by kernel_rfl) 30 rfl
        subst f8
        have f10 : x32 = .int .i64 ((a : Int) + 1) := F 10 (by kernel_rfl) 32 rfl
        subst f10
        clear F hF
        have hJ1 := hJ
        obtain ⟨⟨c0, c1, c2, c3, _⟩, _, _, _⟩ := hJ1
        have hh := put_any w h.V n.vals.length h.vc a e (strs n.vals) [] none 0 0 (hJ.2.1.vs) (strs_1 _) sl_none (by intro u hu; cases hu) (by rw [strs_len]; have := HS.out.v; omega) (by simp) a ((a : Int) + 1) rfl (by rw [HE.out]; rfl)
        go_simp
        (with_reducible refine hh.mono ?_)
        rintro e' w' ⟨A, m', c', rfl, hA, hb⟩
        go_simp
        exact hK _ _ ⟨hJ.1.below hb, hJ.2.1.below hb, hJ.2.2.1.below hb, bstep hJ.2.2.2 (Nat.le_of_lt hJ.1.lt) hb⟩ hb (by have := hA.low (heap_lt hJ.2.2.1); simpa [strs, List.map_take, List.map_drop] using this)
    refine Inv.from_cons _ _ _ _ rfl (fun _ a w hJ hF F K hK => ?_) ?_
    · obtain ⟨⟨l⟩, ds⟩ := a
      have hsz : l.length = 35 := hF.size
      obtain ⟨x0, x1, x2, x3, x4, x5, x6, x7, x8, x9, x10, x11, x12, x13, x14, x15, x16, x17, x18, x19, x20, x21, x22, x23, x24, x25, x26, x27, x28, x29, x30, x31, x32, x33, x34, rfl⟩ := lit35 l hsz
      all_goals
        obtain rfl : ds = [] := hF.defers
        have f5 : SlO (g + 2) (strs (n.keys.take a ++ ([] ++ n.keys.drop e))) x27 w := F 5 (by kernel_rfl) 27 rfl
        have f11 : SlO (g + 2) (strs (n.vals.take a ++ ([] ++ n.vals.drop e))) x33 w := F 11 (by kernel_rfl) 33 rfl
        clear F hF
        have hJ1 := hJ
        obtain ⟨⟨c0, c1, c2, c3, _⟩, _, _, _⟩ := hJ1
        obtain ⟨A1, m1, k1, rfl⟩ := f5.form
        obtain ⟨A2, m2, k2, rfl⟩ := f11.form
        go_simp
        exact hK _ _ hJ (Below.refl _ _) ⟨_, _, _, rfl, f5, f11, slo_none⟩
    refine Inv.from_skip _ _ _ _ rfl ?_
    exact Inv.from_end _ _ _ _ (by decide +kernel)
  · intro o ho a w hJ hF F K hK
    injection (show some _ = some o from ho) with ho
    subst ho
    obtain ⟨⟨l⟩, ds⟩ := a
    have hsz : l.length = 35 := hF.size
    obtain ⟨x0, x1, x2, x3, x4, x5, x6, x7, x8, x9, x10, x11, x12, x13, x14, x15, x16, x17, x18, x19, x20, x21, x22, x23, x24, x25, x26, x27, x28, x29, x30, x31, x32, x33, x34, rfl⟩ := lit35 l hsz
    all_goals
      obtain rfl : ds = [] := hF.defers
      obtain rfl : x1 = .string key := hF.slot 1 (by kernel_rfl)
      obtain rfl : x2 = .pointer (some ⟨g, 0, none⟩) := hF.slot 2 (by kernel_rfl)
      obtain rfl : x4 = .pointer (some ⟨g + 1, 0, none⟩) := hF.slot 4 (by kernel_rfl)
      obtain rfl : x5 = .int .i64 (a : Int) := hF.slot 5 (by kernel_rfl)
      have f0 : x22 = .pointer (some ⟨g, 1, none⟩) := F 0 (by decide) 22 rfl
      have f1 : x23 = .slice h.K n.keys.length h.kc := F 1 (by decide) 23 rfl
      have f2 : x24 = .int .i64 (a : Int) := F 2 (by decide) 24 rfl
      have f3 : x25 = .int .i64 (a : Int) := F 3 (by decide) 25 rfl
      have f4 : x26 = .int .i64 ((a : Int) + 1) := F 4 (by decide) 26 rfl
      have f5 : SlO (g + 2) (strs (n.keys.take a ++ ([] ++ n.keys.drop e))) x27 w := F 5 (by decide) 27 rfl
      have f6 : x28 = .pointer (some ⟨g, 2, none⟩) := F 6 (by decide) 28 rfl
      have f7 : x29 = .slice h.V n.vals.length h.vc := F 7 (by decide) 29 rfl
      have f8 : x30 = .int .i64 (a : Int) := F 8 (by decide) 30 rfl
      have f9 : x31 = .int .i64 (a : Int) := F 9 (by decide) 31 rfl
      have f10 : x32 = .int .i64 ((a : Int) + 1) := F 10 (by decide) 32 rfl
      have f11 : SlO (g + 2) (strs (n.vals.take a ++ ([] ++ n.vals.drop e))) x33 w := F 11 (by decide) 33 rfl
      have f12 : NvO (g + 2) ⟨true, n.keys.take a ++ ([] ++ n.keys.drop e), n.vals.take a ++ ([] ++ n.vals.drop e), []⟩ x34 w := F 12 (by decide) 34 rfl
      subst f0
      subst f1
      subst f2
      subst f3
      subst f4
      subst f6
      subst f7
      subst f8
      subst f9
      subst f10
      clear F hF
      have hJ1 := hJ
      obtain ⟨⟨c0, c1, c2, c3, _⟩, _, _, _⟩ := hJ1
      have hv := f12
      obtain ⟨a', b', c', rfl, fa, fb, fc⟩ := f12
      obtain ⟨A1, m1, k1, rfl⟩ := fa.form
      obtain ⟨A2, m2, k2, rfl⟩ := fb.form
      obtain ⟨A3, m3, k3, rfl⟩ := fc.form
      have hat := hJ.2.2.1
      obtain ⟨q0, q1, q2, q3, z0, z1, z2, z3⟩ := hat.f4
      clear fa fb fc
      have HV := Lib.hid (hv.st4 (g := g + 1) (a := .bool true) (b := .slice A1 m1 k1) (c := .slice A2 m2 k2) (d := .slice A3 m3 k3) (by omega)).nv
      have HA := Lib.hid (set4 hat (.bool true) (.slice A1 m1 k1) (.slice A2 m2 k2) (.slice A3 m3 k3))
      have HB := Lib.hid (below4 hJ.2.2.2 (show g ≤ g + 1 by omega) (.bool true) (.slice A1 m1 k1) (.slice A2 m2 k2) (.slice A3 m3 k3))
      clear hJ hv hat c0 c1 c2 c3
      go_simp
      refine hK _ _ ?_
      clear hK
      go_wp2_with fail
      refine bodyPost_ret (results_cell_row rfl _ _ (g + 1) 25 _ (0, 0) _ rfl HA.out Try.underlying25 rfl (by kernel_rfl)) rfl ?_
      exact ⟨_, rfl, HV.out, by rw [HG.out]; exact HB.out⟩
  · intro hq; exact absurd hq (by decide +kernel)
end Go.Proofs.Ytpcpfcllgadghaa.NodePutDrop
