/- The contracts of Cells, Room and bytesOf, and of few. -/
import Derived.Test.YtpcpfcllgadghaaNodeEnt
namespace Go.Proofs.Ytpcpfcllgadghaa.NodeCells
open Go.RowKit Base NodePlain NodeRead NodeSlice NodeCheck NodeBox NodeEnt

/-- children as texts -/
def texts (n : Nd) : List ByteArray := n.kids.map fun k => four k.toNat
/-- a node as cells -/
def cells (n : Nd) : List ByteArray := if n.leaf then ents n.keys n.vals else (texts n).take 1 ++ ents n.keys ((texts n).drop 1)
/-- what Cells comes to -/
def CellsPost (W : World) (n : Nd) (er : Int) (e : Ending) (w' : World) : Prop := Below W.heap.size W w' ∧ ((er ≠ 0 ∧ e = .returned (.tuple #[.slice none 0 0, .int .i64 er])) ∨ (er = 0 ∧ ∃ A m c, e = .returned (.tuple #[.slice A m c, .int .i64 0]) ∧ SlO W.heap.size (strs (cells n)) (.slice A m c) w'))
theorem four_size (n : Nat) : (four n).size = 4 := rfl
theorem Ok.short {n : Nd} (h : Ok n) : (∀ q ∈ n.keys, q.size ≤ 100) ∧ ∀ q ∈ n.vals, q.size ≤ 100 :=
  ⟨fun q hq => Nat.le_of_not_lt fun g => h.1 (.inl ⟨q, hq, g⟩), fun q hq => Nat.le_of_not_lt fun g => h.1 (.inr ⟨q, hq, g⟩)⟩
set_option maxRecDepth 100000 in
set_option maxHeartbeats 6400000 in
theorem cells_any (W : World) (n : Nd) (h : Hd) (hl : Lay W n h) (hs : Small n) (er : Int) (he : Chk n er) :
    Calls Try.prog 15 #[nv n h] W (CellsPost W n er) := by
  have HS := Lib.hid hs
  have HE := Lib.hid he
  have HCk := Lib.hid (fun w' (hb : Below (box W n h).heap.size (box W n h) w') => check_any w' n h ((hl.below (box_below W n h)).below hb) hs er he)
  have HJ := Lib.hid (fun w' (hb : Below (box W n h).heap.size (box W n h) w') => (show Bx w' W.heap.size n h ∧ Lay w' n h ∧ Below W.heap.size W w' from ⟨(bx_new W n h).below hb, (hl.below (box_below W n h)).below hb, Below.step (box_below W n h) hb⟩))
  clear hl hs he
  go_enter Try.func15, Try.ntmps15
  go_wp2_with fail
  refine (HCk.out _ (Below.refl _ _)).mono ?_
  rintro e w1 ⟨rfl, b1⟩
  obtain ⟨⟨c0, c1, c2, c3, hlt⟩, hl1, hb1⟩ := HJ.out w1 b1
  have HG := Lib.hid (show W.heap.size = W.heap.size from rfl)
  by_cases he0 : er = 0
  · subst he0
    have hok := (chk_ok HE.out).1 rfl
    have HE0 := Lib.hid (show (0 : Int) = 0 from rfl)
    have HSH := Lib.hid (Ok.short hok)
    cases hleaf : n.leaf with
    | true =>
      have hf := hok.2.1
      rw [hleaf] at c0 hf
      simp only [if_true] at hf
      have HC := Lib.hid (show cells n = ents n.keys n.vals by rw [cells, hleaf]; rfl)
      have hen := entries_any w1 h.K h.V n.keys.length n.vals.length h.kc h.vc n.keys n.vals rfl rfl hl1.k hl1.v (HS.out.k) hf.1 (fun q hq => by have := HSH.out.1 q hq; omega) (fun q hq => by have := HSH.out.2 q hq; omega)
      have HB1 := Lib.hid hb1
      clear hf hok hl1 hb1 b1 HCk HJ
      go_wp2_with fail
      refine hen.mono ?_
      rintro e w2 ⟨A, m, c, rfl, hA, b2⟩
      go_wp2_with fail
      go_ret2
      exact ⟨bstep HB1.out HB1.out.size b2, .inr ⟨rfl, _, _, _, rfl, by rw [HC.out]; exact hA.low HB1.out.size⟩⟩
    | false =>
      have hf := hok.2.1
      rw [hleaf] at c0 hf
      simp only [Bool.false_eq_true, if_false] at hf
      have HC := Lib.hid (show cells n = (texts n).take 1 ++ ents n.keys ((texts n).drop 1) by rw [cells, hleaf]; rfl)
      have HTL := Lib.hid (show ((texts n).drop 1).length = n.keys.length by rw [List.length_drop, texts, List.length_map]; omega)
      have HK1 := Lib.hid (show ∀ q ∈ n.keys, q.size ≤ 255 from fun q hq => by have := HSH.out.1 q hq; omega)
      have HK2 := Lib.hid (show ∀ q ∈ (texts n).drop 1, q.size ≤ 1000 from fun q hq => by
        obtain ⟨k, _, rfl⟩ := List.mem_map.1 (List.mem_of_mem_drop hq)
        rw [four_size]; omega)
      have hkt := kidTexts_any w1 h.D n.kids.length h.dc n.kids rfl hl1.d HS.out.d hok.2.2.1
      have HJ1 := Lib.hid (fun w' (hb : Below w1.heap.size w1 w') => HJ.out w' (Below.step b1 hb))
      clear hf hok hl1 hb1 b1 HCk HJ
      go_wp2_with fail
      refine hkt.mono ?_
      rintro e w2 ⟨A1, m1, k1, rfl, hA1, b2⟩
      have hJ2 := HJ1.out w2 b2
      have HM := Lib.hid (show m1 = (strs (texts n)).length by obtain ⟨_, _, _, e1, e2, _⟩ := hA1; injection e1 with _ e1; rw [e1, e2]; rfl)
      clear hkt HJ1
      go_wp2_with fail
      have hJ0 : (fun w' : World => Bx w' W.heap.size n h ∧ Lay w' n h ∧ SlA (strs (texts n)) (.slice A1 m1 k1) w' ∧ Below W.heap.size W w') (World.drew w2) :=
        ⟨hJ2.1.below (Below.refl _ _).drew, hJ2.2.1.below (Below.refl _ _).drew, hA1.sla.below (Below.refl _ _).drew, hJ2.2.2.drew⟩
      clear hJ2 hA1 b2
      dsimp only at hJ0
      clear HG
      generalize hg : W.heap.size = g at *
      have HG := Lib.hid hg
      clear hg
      refine wp_region_any (by kernel_rfl) ?_
      change wpAny _ _ _ _ _ _ _ (World.drew _)
      refine Inv.inv_any (fun (i : Nat) (v : Value) (w : World) => match i with | 0 => v = .slice A1 m1 k1 | 1 => SlA (((strs (texts n)).take 1).drop 0) v w | 2 => v = .pointer (some ⟨g, 1, none⟩) | 3 => v = .slice h.K n.keys.length h.kc | 4 => v = .slice A1 m1 k1 | 5 => v = .slice A1 m1 k1 | 6 => v = .int .i64 (m1 : Int) | 7 => SlA (((strs (texts n)).take m1).drop 1) v w | 8 => SlO g (strs (ents n.keys ((texts n).drop 1))) v w | 9 => Pcs [((strs (texts n)).take 1).drop 0, strs (ents n.keys ((texts n).drop 1))] v w | 10 => SlO g (strs (cells n)) v w | 11 => SlO g (strs (cells n)) v w | _ => True) (fun w' : World => Bx w' g n h ∧ Lay w' n h ∧ SlA (strs (texts n)) (.slice A1 m1 k1) w' ∧ Below g W w') _ 12 32 rfl rfl rfl (by kernel_rfl) (by kernel_rfl) hJ0 ?_ ?_ ?_ ?_
      · intro j v w w' h hb
        match j, h with
        | 0, h => exact h
        | 1, h => exact SlA.below h hb
        | 2, h => exact h
        | 3, h => exact h
        | 4, h => exact h
        | 5, h => exact h
        | 6, h => exact h
        | 7, h => exact SlA.below h hb
        | 8, h => exact SlO.below h hb
        | 9, h => exact Pcs.below h hb
        | 10, h => exact SlO.below h hb
        | 11, h => exact SlO.below h hb
        | 12, _ => exact trivial
        | (_ + 13), _ => exact trivial
      · skip
        refine Inv.from_cons _ _ _ _ rfl (fun _ a w hJ hF F K hK => ?_) ?_
        · obtain ⟨⟨l⟩, ds⟩ := a
          have hsz : l.length = 32 := hF.size
          match l, hsz with
          | [x0, x1, x2, x3, x4, x5, x6, x7, x8, x9, x10, x11, x12, x13, x14, x15, x16, x17, x18, x19, x20, x21, x22, x23, x24, x25, x26, x27, x28, x29, x30, x31], _ =>
            obtain rfl : ds = [] := hF.defers
            obtain rfl : x5 = .slice A1 m1 k1 := hF.slot 5 (by kernel_rfl)
            clear F hF
            have hJ1 := hJ
            obtain ⟨⟨c0, c1', c2', c3, _⟩, _, _, _⟩ := hJ1
            go_simp
            exact hK (.slice A1 m1 k1) _ hJ (Below.refl _ _) rfl
        refine Inv.from_cons _ _ _ _ rfl (fun _ a w hJ hF F K hK => ?_) ?_
        · obtain ⟨⟨l⟩, ds⟩ := a
          have hsz : l.length = 32 := hF.size
          match l, hsz with
          | [x0, x1, x2, x3, x4, x5, x6, x7, x8, x9, x10, x11, x12, x13, x14, x15, x16, x17, x18, x19, x20, x21, x22, x23, x24, x25, x26, x27, x28, x29, x30, x31], _ =>
            obtain rfl : ds = [] := hF.defers
            have f0 : x21 = .slice A1 m1 k1 := F 0 (by kernel_rfl) 21 rfl
            subst f0
            clear F hF
            have hJ1 := hJ
            obtain ⟨⟨c0, c1', c2', c3, _⟩, _, _, _⟩ := hJ1
            have hh := cutP_s w (.slice A1 m1 k1) (strs (texts n)) 0 1 0 1 hJ.2.2.1 rfl rfl
            go_simp
            (with_reducible refine hh.mono ?_)
            rintro e w' ⟨A, m', c', rfl, hA, rfl⟩
            go_simp
            exact hK _ _ hJ (Below.refl _ _) hA
        refine Inv.from_cons _ _ _ _ rfl (fun _ a w hJ hF F K hK => ?_) ?_
        · obtain ⟨⟨l⟩, ds⟩ := a
          have hsz : l.length = 32 := hF.size
          match l, hsz with
          | [x0, x1, x2, x3, x4, x5, x6, x7, x8, x9, x10, x11, x12, x13, x14, x15, x16, x17, x18, x19, x20, x21, x22, x23, x24, x25, x26, x27, x28, x29, x30, x31], _ =>
            obtain rfl : ds = [] := hF.defers
            obtain rfl : x1 = .pointer (some ⟨g, 0, none⟩) := hF.slot 1 (by kernel_rfl)
            clear F hF
            have hJ1 := hJ
            obtain ⟨⟨c0, c1', c2', c3, _⟩, _, _, _⟩ := hJ1
            go_simp
            exact hK (.pointer (some ⟨g, 1, none⟩)) _ hJ (Below.refl _ _) rfl
        refine Inv.from_cons _ _ _ _ rfl (fun _ a w hJ hF F K hK => ?_) ?_
        · obtain ⟨⟨l⟩, ds⟩ := a
          have hsz : l.length = 32 := hF.size
          match l, hsz with
          | [x0, x1, x2, x3, x4, x5, x6, x7, x8, x9, x10, x11, x12, x13, x14, x15, x16, x17, x18, x19, x20, x21, x22, x23, x24, x25, x26, x27, x28, x29, x30, x31], _ =>
            obtain rfl : ds = [] := hF.defers
            have f2 : x23 = .pointer (some ⟨g, 1, none⟩) := F 2 (by kernel_rfl) 23 rfl
            subst f2
            clear F hF
            have hJ1 := hJ
            obtain ⟨⟨c0, c1', c2', c3, _⟩, _, _, _⟩ := hJ1
            go_simp
            exact hK (.slice h.K n.keys.length h.kc) _ hJ (Below.refl _ _) rfl
        refine Inv.from_cons _ _ _ _ rfl (fun _ a w hJ hF F K hK => ?_) ?_
        · obtain ⟨⟨l⟩, ds⟩ := a
          have hsz : l.length = 32 := hF.size
          match l, hsz with
          | [x0, x1, x2, x3, x4, x5, x6, x7, x8, x9, x10, x11, x12, x13, x14, x15, x16, x17, x18, x19, x20, x21, x22, x23, x24, x25, x26, x27, x28, x29, x30, x31], _ =>
            obtain rfl : ds = [] := hF.defers
            obtain rfl : x5 = .slice A1 m1 k1 := hF.slot 5 (by kernel_rfl)
            clear F hF
            have hJ1 := hJ
            obtain ⟨⟨c0, c1', c2', c3, _⟩, _, _, _⟩ := hJ1
            go_simp
            exact hK (.slice A1 m1 k1) _ hJ (Below.refl _ _) rfl
        refine Inv.from_cons _ _ _ _ rfl (fun _ a w hJ hF F K hK => ?_) ?_
        · obtain ⟨⟨l⟩, ds⟩ := a
          have hsz : l.length = 32 := hF.size
          match l, hsz with
          | [x0, x1, x2, x3, x4, x5, x6, x7, x8, x9, x10, x11, x12, x13, x14, x15, x16, x17, x18, x19, x20, x21, x22, x23, x24, x25, x26, x27, x28, x29, x30, x31], _ =>
            obtain rfl : ds = [] := hF.defers
            obtain rfl : x5 = .slice A1 m1 k1 := hF.slot 5 (by kernel_rfl)
            clear F hF
            have hJ1 := hJ
            obtain ⟨⟨c0, c1', c2', c3, _⟩, _, _, _⟩ := hJ1
            go_simp
            exact hK (.slice A1 m1 k1) _ hJ (Below.refl _ _) rfl
        refine Inv.from_cons _ _ _ _ rfl (fun _ a w hJ hF F K hK => ?_) ?_
        · obtain ⟨⟨l⟩, ds⟩ := a
          have hsz : l.length = 32 := hF.size
          match l, hsz with
          | [x0, x1, x2, x3, x4, x5, x6, x7, x8, x9, x10, x11, x12, x13, x14, x15, x16, x17, x18, x19, x20, x21, x22, x23, x24, x25, x26, x27, x28, x29, x30, x31], _ =>
            obtain rfl : ds = [] := hF.defers
            have f5 : x26 = .slice A1 m1 k1 := F 5 (by kernel_rfl) 26 rfl
            subst f5
            clear F hF
            have hJ1 := hJ
            obtain ⟨⟨c0, c1', c2', c3, _⟩, _, _, _⟩ := hJ1
            go_simp
            exact hK (.int .i64 (m1 : Int)) _ hJ (Below.refl _ _) rfl
        refine Inv.from_cons _ _ _ _ rfl (fun _ a w hJ hF F K hK => ?_) ?_
        · obtain ⟨⟨l⟩, ds⟩ := a
          have hsz : l.length = 32 := hF.size
          match l, hsz with
          | [x0, x1, x2, x3, x4, x5, x6, x7, x8, x9, x10, x11, x12, x13, x14, x15, x16, x17, x18, x19, x20, x21, x22, x23, x24, x25, x26, x27, x28, x29, x30, x31], _ =>
            obtain rfl : ds = [] := hF.defers
            have f1 : SlA (((strs (texts n)).take 1).drop 0) x22 w := F 1 (by kernel_rfl) 22 rfl
            have f4 : x25 = .slice A1 m1 k1 := F 4 (by kernel_rfl) 25 rfl
            subst f4
            have f6 : x27 = .int .i64 (m1 : Int) := F 6 (by kernel_rfl) 27 rfl
            subst f6
            clear F hF
            have hJ1 := hJ
            obtain ⟨⟨c0, c1', c2', c3, _⟩, _, _, _⟩ := hJ1
            have hh := cutP_s w (.slice A1 m1 k1) (strs (texts n)) 1 m1 1 (m1 : Int) hJ.2.2.1 rfl rfl
            go_simp
            (with_reducible refine hh.mono ?_)
            rintro e w' ⟨A, m', c', rfl, hA, rfl⟩
            go_simp
            exact hK _ _ hJ (Below.refl _ _) hA
        refine Inv.from_cons _ _ _ _ rfl (fun _ a w hJ hF F K hK => ?_) ?_
        · obtain ⟨⟨l⟩, ds⟩ := a
          have hsz : l.length = 32 := hF.size
          match l, hsz with
          | [x0, x1, x2, x3, x4, x5, x6, x7, x8, x9, x10, x11, x12, x13, x14, x15, x16, x17, x18, x19, x20, x21, x22, x23, x24, x25, x26, x27, x28, x29, x30, x31], _ =>
            obtain rfl : ds = [] := hF.defers
            have f3 : x24 = .slice h.K n.keys.length h.kc := F 3 (by kernel_rfl) 24 rfl
            subst f3
            have f7 : SlA (((strs (texts n)).take m1).drop 1) x28 w := F 7 (by kernel_rfl) 28 rfl
            clear F hF
            have hJ1 := hJ
            obtain ⟨⟨c0, c1', c2', c3, _⟩, _, _, _⟩ := hJ1
            obtain ⟨A2, m2, c2, rfl, e2, e3, hr2⟩ := f7
            rw [HM.out, List.take_of_length_le (by simp [strs]), show (strs (texts n)).drop 1 = strs ((texts n).drop 1) by simp [strs]] at hr2 e2
            rw [strs_len] at e2
            have hh := entries_any w h.K A2 n.keys.length m2 h.kc c2 n.keys ((texts n).drop 1) rfl e2 hJ.2.1.k hr2 (by have := HS.out.k; omega) HTL.out HK1.out HK2.out
            clear e2 e3 hr2
            go_simp
            (with_reducible refine hh.mono ?_)
            rintro e w' ⟨A, m', c', rfl, hA, hb⟩
            go_simp
            exact hK _ _ ⟨hJ.1.below hb, hJ.2.1.below hb, hJ.2.2.1.below hb, bstep hJ.2.2.2 (Nat.le_of_lt hJ.1.lt) hb⟩ hb (hA.low (Nat.le_of_lt hJ.1.lt))
        refine Inv.from_cons _ _ _ _ rfl (fun _ a w hJ hF F K hK => ?_) ?_
        · obtain ⟨⟨l⟩, ds⟩ := a
          have hsz : l.length = 32 := hF.size
          match l, hsz with
          | [x0, x1, x2, x3, x4, x5, x6, x7, x8, x9, x10, x11, x12, x13, x14, x15, x16, x17, x18, x19, x20, x21, x22, x23, x24, x25, x26, x27, x28, x29, x30, x31], _ =>
            obtain rfl : ds = [] := hF.defers
            have f1 : SlA (((strs (texts n)).take 1).drop 0) x22 w := F 1 (by kernel_rfl) 22 rfl
            have f8 : SlO g (strs (ents n.keys ((texts n).drop 1))) x29 w := F 8 (by kernel_rfl) 29 rfl
            clear F hF
            have hJ1 := hJ
            obtain ⟨⟨c0, c1', c2', c3, _⟩, _, _, _⟩ := hJ1
            have hp := pcs2 (t := 22) f1 (by intro u hu; exact strs_1 _ u (List.mem_of_mem_take (List.mem_of_mem_drop hu))) f8.sla (strs_1 _)
            obtain ⟨A2, m2, c2, rfl⟩ := f8.form
            obtain ⟨A3, m3, c3, rfl⟩ := f1.form
            clear f1 f8
            go_simp
            exact hK _ _ ⟨hJ.1.below (al _ _), hJ.2.1.below (al _ _), hJ.2.2.1.below (al _ _), bstep hJ.2.2.2 (Nat.le_of_lt hJ.1.lt) (al _ _)⟩ (al _ _) hp
        refine Inv.from_cons _ _ _ _ rfl (fun _ a w hJ hF F K hK => ?_) ?_
        · obtain ⟨⟨l⟩, ds⟩ := a
          have hsz : l.length = 32 := hF.size
          match l, hsz with
          | [x0, x1, x2, x3, x4, x5, x6, x7, x8, x9, x10, x11, x12, x13, x14, x15, x16, x17, x18, x19, x20, x21, x22, x23, x24, x25, x26, x27, x28, x29, x30, x31], _ =>
            obtain rfl : ds = [] := hF.defers
            have f8 : SlO g (strs (ents n.keys ((texts n).drop 1))) x29 w := F 8 (by kernel_rfl) 29 rfl
            have f9 : Pcs [((strs (texts n)).take 1).drop 0, strs (ents n.keys ((texts n).drop 1))] x30 w := F 9 (by kernel_rfl) 30 rfl
            clear F hF
            have hJ1 := hJ
            obtain ⟨⟨c0, c1', c2', c3, _⟩, _, _, _⟩ := hJ1
            have hh := layO_s w _ _ f9 (by simp [strs, ents, texts]; have := HS.out.k; have := HS.out.d; omega) (by simp)
            obtain ⟨A2, m2, c2, rfl⟩ := f9.form
            clear f9
            go_simp
            (with_reducible refine hh.mono ?_)
            rintro e w' ⟨A, m', c', rfl, hA, hb⟩
            go_simp
            exact hK _ _ ⟨hJ.1.below hb, hJ.2.1.below hb, hJ.2.2.1.below hb, bstep hJ.2.2.2 (Nat.le_of_lt hJ.1.lt) hb⟩ hb (by have := hA.low (Nat.le_of_lt hJ.1.lt); rw [show [((strs (texts n)).take 1).drop 0, strs (ents n.keys ((texts n).drop 1))].flatten = strs (cells n) by rw [HC.out]; simp [strs, List.map_take]] at this; exact this)
        refine Inv.from_cons _ _ _ _ rfl (fun _ a w hJ hF F K hK => ?_) ?_
        · obtain ⟨⟨l⟩, ds⟩ := a
          have hsz : l.length = 32 := hF.size
          match l, hsz with
          | [x0, x1, x2, x3, x4, x5, x6, x7, x8, x9, x10, x11, x12, x13, x14, x15, x16, x17, x18, x19, x20, x21, x22, x23, x24, x25, x26, x27, x28, x29, x30, x31], _ =>
            obtain rfl : ds = [] := hF.defers
            have f0 : x21 = .slice A1 m1 k1 := F 0 (by kernel_rfl) 21 rfl
            subst f0
            have f1 : SlA (((strs (texts n)).take 1).drop 0) x22 w := F 1 (by kernel_rfl) 22 rfl
            have f2 : x23 = .pointer (some ⟨g, 1, none⟩) := F 2 (by kernel_rfl) 23 rfl
            subst f2
            have f3 : x24 = .slice h.K n.keys.length h.kc := F 3 (by kernel_rfl) 24 rfl
            subst f3
            have f4 : x25 = .slice A1 m1 k1 := F 4 (by kernel_rfl) 25 rfl
            subst f4
            have f5 : x26 = .slice A1 m1 k1 := F 5 (by kernel_rfl) 26 rfl
            subst f5
            have f6 : x27 = .int .i64 (m1 : Int) := F 6 (by kernel_rfl) 27 rfl
            subst f6
            have f7 : SlA (((strs (texts n)).take m1).drop 1) x28 w := F 7 (by kernel_rfl) 28 rfl
            have f8 : SlO g (strs (ents n.keys ((texts n).drop 1))) x29 w := F 8 (by kernel_rfl) 29 rfl
            have f9 : Pcs [((strs (texts n)).take 1).drop 0, strs (ents n.keys ((texts n).drop 1))] x30 w := F 9 (by kernel_rfl) 30 rfl
            have f10 : SlO g (strs (cells n)) x31 w := F 10 (by kernel_rfl) 31 rfl
            clear F hF
            have hJ1 := hJ
            obtain ⟨⟨c0, c1', c2', c3, _⟩, _, _, _⟩ := hJ1
            obtain ⟨A2, m2, c2, rfl⟩ := f10.form
            go_simp
            exact hK _ _ hJ (Below.refl _ _) f10
        refine Inv.from_skip _ _ _ _ rfl ?_
        exact Inv.from_end _ _ _ _ (by decide +kernel)
      · intro o ho a w hJ hF F K hK
        injection (show some _ = some o from ho) with ho
        subst ho
        obtain ⟨⟨l⟩, ds⟩ := a
        have hsz : l.length = 32 := hF.size
        match l, hsz with
        | [x0, x1, x2, x3, x4, x5, x6, x7, x8, x9, x10, x11, x12, x13, x14, x15, x16, x17, x18, x19, x20, x21, x22, x23, x24, x25, x26, x27, x28, x29, x30, x31], _ =>
          obtain rfl : ds = [] := hF.defers
          obtain rfl : x1 = .pointer (some ⟨g, 0, none⟩) := hF.slot 1 (by kernel_rfl)
          obtain rfl : x5 = .slice A1 m1 k1 := hF.slot 5 (by kernel_rfl)
          have f0 : x21 = .slice A1 m1 k1 := F 0 (by decide) 21 rfl
          have f1 : SlA (((strs (texts n)).take 1).drop 0) x22 w := F 1 (by decide) 22 rfl
          have f2 : x23 = .pointer (some ⟨g, 1, none⟩) := F 2 (by decide) 23 rfl
          have f3 : x24 = .slice h.K n.keys.length h.kc := F 3 (by decide) 24 rfl
          have f4 : x25 = .slice A1 m1 k1 := F 4 (by decide) 25 rfl
          have f5 : x26 = .slice A1 m1 k1 := F 5 (by decide) 26 rfl
          have f6 : x27 = .int .i64 (m1 : Int) := F 6 (by decide) 27 rfl
          have f7 : SlA (((strs (texts n)).take m1).drop 1) x28 w := F 7 (by decide) 28 rfl
          have f8 : SlO g (strs (ents n.keys ((texts n).drop 1))) x29 w := F 8 (by decide) 29 rfl
          have f9 : Pcs [((strs (texts n)).take 1).drop 0, strs (ents n.keys ((texts n).drop 1))] x30 w := F 9 (by decide) 30 rfl
          have f10 : SlO g (strs (cells n)) x31 w := F 10 (by decide) 31 rfl
          have f11 : SlO g (strs (cells n)) x2 w := F 11 (by decide) 2 rfl
          subst f0
          subst f2
          subst f3
          subst f4
          subst f5
          subst f6
          clear F hF
          have hJ1 := hJ
          obtain ⟨⟨c0, c1', c2', c3, _⟩, _, _, _⟩ := hJ1
          obtain ⟨A2, m2, c2, rfl⟩ := f11.form
          have HO := Lib.hid f11
          have HB := Lib.hid hJ.2.2.2
          clear f11 f10 f9 f8 f7 f1 hJ
          go_simp
          refine hK _ _ ?_
          clear hK
          go_wp2_with fail
          go_ret2
          exact ⟨by rw [HG.out]; exact HB.out, .inr ⟨rfl, _, _, _, rfl, by rw [HG.out]; exact HO.out⟩⟩
      · intro hq; exact absurd hq (by decide +kernel)
  · have HEN := Lib.hid he0
    have he1 : decide (er = 0) = false := decide_eq_false he0
    clear he0
    have he2 : (er != 0) = true := by simpa using HEN.out
    clear he1
    go_wp2_with fail
    go_ret2
    exact ⟨hb1, .inl ⟨HEN.out, rfl⟩⟩
end Go.Proofs.Ytpcpfcllgadghaa.NodeCells
