/- The contracts of bytesOf, Room, the document's Room, and few. -/
import Derived.Test.YtpcpfcllgadghaaNodeCheck
import Derived.Test.YtpcpfcllgadghaaInv
namespace Go.Proofs.Ytpcpfcllgadghaa.NodeRoom
open Go.RowKit Base NodePlain NodeRead NodeSlice NodeCheck

set_option maxHeartbeats 800000 in
theorem bytesOf_any (w : World) (A : Option Addr) (m c : Nat) (cs : List ByteArray) (hm : m = cs.length) (hr : Row w w.heap.size A (strs cs)) (hl : cs.length ≤ 1000) (hz : ∀ q ∈ cs, q.size ≤ 1000) :
    Calls Try.prog 42 #[.slice A m c] w fun e w' => e = .returned (.int .i64 (tot cs : Nat)) ∧ w = w' := by
  subst hm
  have ht := tot_le cs 1000 hz
  go_enter Try.func42, Try.ntmps42
  go_wp2_with fail
  go_loop [3, 8] (fun v i => ∃ k : Nat, k ≤ cs.length ∧ i = .int .i64 k ∧ v = .int .i64 ((tot (cs.take k) : Nat) : Int)) (fun _ i => cs.length - (intOf i).toNat)
  case atStart => exact ⟨0, by omega, rfl, by simp [tot]⟩
  case round =>
    obtain ⟨k, hk, rfl, rfl⟩ := hrel
    by_cases hlt : k < cs.length
    · have HT := Lib.hid (tot_take cs k hlt)
      have h1 : tot (cs.take (k + 1)) ≤ tot cs := by
        have := tot_append (cs.take (k + 1)) (cs.drop (k + 1)); rw [List.take_append_drop] at this; omega
      rw [HT.out] at h1
      obtain ⟨ad, rfl, hb, hc⟩ := strs_get hr k hlt
      generalize cs[k] = q at *
      generalize tot (cs.take k) = t at *
      generalize cs.length = n at *
      go_wp2_with fail
      go_round
      case rel => exact ⟨k + 1, by omega, by go_num, by rw [HT.out]; go_num⟩
      case measure => simp [intOf]; omega
    · obtain rfl : k = cs.length := by omega
      rw [List.take_of_length_le (Nat.le_refl _)]
      go_wp2_with fail
      go_ret
      exact ⟨ret_int rfl, rfl⟩
set_option maxRecDepth 100000 in
set_option maxHeartbeats 1600000 in
theorem room_any (W : World) (n : Nd) (h : Hd) (hl : Lay W n h) (hs : Small n) :
    Calls Try.prog 18 #[nv n h] W fun e w' => e = .returned (.int .i64 (room n : Nat)) ∧ Below W.heap.size W w' := by
  have HJ := Lib.hid (show Bx (World.drew (box W n h)) W.heap.size n h ∧ Lay (World.drew (box W n h)) n h ∧ Below W.heap.size W (World.drew (box W n h)) from ⟨(bx_new W n h).below (Below.refl _ _).drew, (hl.below (box_below W n h)).below (Below.refl _ _).drew, (box_below W n h).drew⟩)
  have hk := hs.k
  have hv := hs.v
  have hd := hs.d
  have t1 := tot_le n.keys 1000 hs.ks
  have t2 := tot_le n.vals 1000 hs.vs
  have H1 := Lib.hid (fun (w : World) (hl : Lay w n h) => bytesOf_any w h.K n.keys.length h.kc n.keys rfl hl.k hk hs.ks)
  have H2 := Lib.hid (fun (w : World) (hl : Lay w n h) => bytesOf_any w h.V n.vals.length h.vc n.vals rfl hl.v hv hs.vs)
  have HR := Lib.hid (show room n = 3 * n.keys.length + tot n.keys + tot n.vals + 4 * n.kids.length + (if n.leaf then 0 else 2) from rfl)
  clear hs hl
  generalize tot n.keys = a at *
  generalize tot n.vals = b at *
  have j0 : IntKind.i64.wrap (3 * (n.keys.length : Int)) = 3 * (n.keys.length : Int) := IntWalk.i64_in _ (by omega)
  have j1 : IntKind.i64.wrap (4 * (n.kids.length : Int)) = 4 * (n.kids.length : Int) := IntWalk.i64_in _ (by omega)
  have j2 : IntKind.i64.wrap (3 * (n.keys.length : Int) + (a : Int)) = 3 * (n.keys.length : Int) + (a : Int) := IntWalk.i64_in _ (by omega)
  have j3 : IntKind.i64.wrap (3 * (n.keys.length : Int) + (a : Int) + (b : Int)) = 3 * (n.keys.length : Int) + (a : Int) + (b : Int) := IntWalk.i64_in _ (by omega)
  have j4 : IntKind.i64.wrap (3 * (n.keys.length : Int) + (a : Int) + (b : Int) + 4 * (n.kids.length : Int)) = 3 * (n.keys.length : Int) + (a : Int) + (b : Int) + 4 * (n.kids.length : Int) := IntWalk.i64_in _ (by omega)
  have j5 : IntKind.i64.wrap (3 * (n.keys.length : Int) + (a : Int) + (b : Int) + 4 * (n.kids.length : Int) + 2) = 3 * (n.keys.length : Int) + (a : Int) + (b : Int) + 4 * (n.kids.length : Int) + 2 := IntWalk.i64_in _ (by omega)
  have HT := Lib.hid (And.intro t1 t2)
  clear t1 t2
  go_enter Try.func18, Try.ntmps18
  go_wp2_with fail
  have hJ0 := HJ.out
  clear HJ
  dsimp only [box] at hJ0
  generalize hg : W.heap.size = g at *
  have HG := Lib.hid hg
  clear hg
  refine wp_region_any (by kernel_rfl) ?_
  change wpAny _ _ _ _ _ _ _ (World.drew _)
  refine Inv.inv_any (fun (i : Nat) (v : Value) (w : World) => match i with | 0 => v = .pointer (some ⟨g, 1, none⟩) | 1 => v = .slice h.K n.keys.length h.kc | 2 => v = .int .i64 ((n.keys.length : Int)) | 3 => v = .int .i64 (3 * (n.keys.length : Int)) | 4 => v = .pointer (some ⟨g, 1, none⟩) | 5 => v = .slice h.K n.keys.length h.kc | 6 => v = .int .i64 ((a : Nat)) | 7 => v = .int .i64 (3 * (n.keys.length : Int) + (a : Nat)) | 8 => v = .pointer (some ⟨g, 2, none⟩) | 9 => v = .slice h.V n.vals.length h.vc | 10 => v = .int .i64 ((b : Nat)) | 11 => v = .int .i64 (3 * (n.keys.length : Int) + (a : Nat) + (b : Nat)) | 12 => v = .pointer (some ⟨g, 3, none⟩) | 13 => v = .slice h.D n.kids.length h.dc | 14 => v = .int .i64 ((n.kids.length : Int)) | 15 => v = .int .i64 (4 * (n.kids.length : Int)) | 16 => v = .int .i64 (3 * (n.keys.length : Int) + (a : Nat) + (b : Nat) + 4 * (n.kids.length : Int)) | _ => True) (fun w' : World => Bx w' g n h ∧ Lay w' n h ∧ Below g W w') _ 17 27 rfl rfl rfl (by kernel_rfl) (by kernel_rfl) hJ0 ?_ ?_ ?_ ?_
  · intro j v w w' h hb
    match j, h with
    | 0, h => exact h
    | 1, h => exact h
    | 2, h => exact h
    | 3, h => exact h
    | 4, h => exact h
    | 5, h => exact h
    | 6, h => exact h
    | 7, h => exact h
    | 8, h => exact h
    | 9, h => exact h
    | 10, h => exact h
    | 11, h => exact h
    | 12, h => exact h
    | 13, h => exact h
    | 14, h => exact h
    | 15, h => exact h
    | 16, h => exact h
    | 17, _ => exact trivial
    | (_ + 18), _ => exact trivial
  · skip
    refine Inv.from_cons _ _ _ _ rfl (fun _ a w hJ hF F K hK => ?_) ?_
    · obtain ⟨⟨l⟩, ds⟩ := a
      have hsz : l.length = 27 := hF.size
      match l, hsz with
      | [x0, x1, x2, x3, x4, x5, x6, x7, x8, x9, x10, x11, x12, x13, x14, x15, x16, x17, x18, x19, x20, x21, x22, x23, x24, x25, x26], _ =>
        obtain rfl : ds = [] := hF.defers
        obtain rfl : x1 = .pointer (some ⟨g, 0, none⟩) := hF.slot 1 (by kernel_rfl)
        clear F hF
        have hJ1 := hJ
        obtain ⟨⟨c0, c1, c2, c3, _⟩, _, _⟩ := hJ1
        go_simp
        exact hK (.pointer (some ⟨g, 1, none⟩)) _ hJ (Below.refl _ _) rfl
    refine Inv.from_cons _ _ _ _ rfl (fun _ a w hJ hF F K hK => ?_) ?_
    · obtain ⟨⟨l⟩, ds⟩ := a
      have hsz : l.length = 27 := hF.size
      match l, hsz with
      | [x0, x1, x2, x3, x4, x5, x6, x7, x8, x9, x10, x11, x12, x13, x14, x15, x16, x17, x18, x19, x20, x21, x22, x23, x24, x25, x26], _ =>
        obtain rfl : ds = [] := hF.defers
        have f0 : x4 = .pointer (some ⟨g, 1, none⟩) := F 0 (by kernel_rfl) 4 rfl
        subst f0
        clear F hF
        have hJ1 := hJ
        obtain ⟨⟨c0, c1, c2, c3, _⟩, _, _⟩ := hJ1
        go_simp
        exact hK (.slice h.K n.keys.length h.kc) _ hJ (Below.refl _ _) rfl
    refine Inv.from_cons _ _ _ _ rfl (fun _ a w hJ hF F K hK => ?_) ?_
    · obtain ⟨⟨l⟩, ds⟩ := a
      have hsz : l.length = 27 := hF.size
      match l, hsz with
      | [x0, x1, x2, x3, x4, x5, x6, x7, x8, x9, x10, x11, x12, x13, x14, x15, x16, x17, x18, x19, x20, x21, x22, x23, x24, x25, x26], _ =>
        obtain rfl : ds = [] := hF.defers
        have f1 : x5 = .slice h.K n.keys.length h.kc := F 1 (by kernel_rfl) 5 rfl
        subst f1
        clear F hF
        have hJ1 := hJ
        obtain ⟨⟨c0, c1, c2, c3, _⟩, _, _⟩ := hJ1
        go_simp
        exact hK (.int .i64 ((n.keys.length : Int))) _ hJ (Below.refl _ _) rfl
    refine Inv.from_cons _ _ _ _ rfl (fun _ a w hJ hF F K hK => ?_) ?_
    · obtain ⟨⟨l⟩, ds⟩ := a
      have hsz : l.length = 27 := hF.size
      match l, hsz with
      | [x0, x1, x2, x3, x4, x5, x6, x7, x8, x9, x10, x11, x12, x13, x14, x15, x16, x17, x18, x19, x20, x21, x22, x23, x24, x25, x26], _ =>
        obtain rfl : ds = [] := hF.defers
        have f2 : x6 = .int .i64 ((n.keys.length : Int)) := F 2 (by kernel_rfl) 6 rfl
        subst f2
        clear F hF
        have hJ1 := hJ
        obtain ⟨⟨c0, c1, c2, c3, _⟩, _, _⟩ := hJ1
        go_simp
        exact hK (.int .i64 (3 * (n.keys.length : Int))) _ hJ (Below.refl _ _) rfl
    refine Inv.from_cons _ _ _ _ rfl (fun _ a w hJ hF F K hK => ?_) ?_
    · obtain ⟨⟨l⟩, ds⟩ := a
      have hsz : l.length = 27 := hF.size
      match l, hsz with
      | [x0, x1, x2, x3, x4, x5, x6, x7, x8, x9, x10, x11, x12, x13, x14, x15, x16, x17, x18, x19, x20, x21, x22, x23, x24, x25, x26], _ =>
        obtain rfl : ds = [] := hF.defers
        obtain rfl : x1 = .pointer (some ⟨g, 0, none⟩) := hF.slot 1 (by kernel_rfl)
        clear F hF
        have hJ1 := hJ
        obtain ⟨⟨c0, c1, c2, c3, _⟩, _, _⟩ := hJ1
        go_simp
        exact hK (.pointer (some ⟨g, 1, none⟩)) _ hJ (Below.refl _ _) rfl
    refine Inv.from_cons _ _ _ _ rfl (fun _ a w hJ hF F K hK => ?_) ?_
    · obtain ⟨⟨l⟩, ds⟩ := a
      have hsz : l.length = 27 := hF.size
      match l, hsz with
      | [x0, x1, x2, x3, x4, x5, x6, x7, x8, x9, x10, x11, x12, x13, x14, x15, x16, x17, x18, x19, x20, x21, x22, x23, x24, x25, x26], _ =>
        obtain rfl : ds = [] := hF.defers
        have f4 : x8 = .pointer (some ⟨g, 1, none⟩) := F 4 (by kernel_rfl) 8 rfl
        subst f4
        clear F hF
        have hJ1 := hJ
        obtain ⟨⟨c0, c1, c2, c3, _⟩, _, _⟩ := hJ1
        go_simp
        exact hK (.slice h.K n.keys.length h.kc) _ hJ (Below.refl _ _) rfl
    refine Inv.from_cons _ _ _ _ rfl (fun _ a w hJ hF F K hK => ?_) ?_
    · obtain ⟨⟨l⟩, ds⟩ := a
      have hsz : l.length = 27 := hF.size
      match l, hsz with
      | [x0, x1, x2, x3, x4, x5, x6, x7, x8, x9, x10, x11, x12, x13, x14, x15, x16, x17, x18, x19, x20, x21, x22, x23, x24, x25, x26], _ =>
        obtain rfl : ds = [] := hF.defers
        have f5 : x9 = .slice h.K n.keys.length h.kc := F 5 (by kernel_rfl) 9 rfl
        subst f5
        clear F hF
        have hJ1 := hJ
        obtain ⟨⟨c0, c1, c2, c3, _⟩, _, _⟩ := hJ1
        have hh := H1.out w hJ.2.1
        go_simp
        (with_reducible refine hh.mono ?_)
        rintro e w' ⟨rfl, rfl⟩
        go_simp
        exact hK _ _ hJ (Below.refl _ _) rfl
    refine Inv.from_cons _ _ _ _ rfl (fun _ a w hJ hF F K hK => ?_) ?_
    · obtain ⟨⟨l⟩, ds⟩ := a
      have hsz : l.length = 27 := hF.size
      match l, hsz with
      | [x0, x1, x2, x3, x4, x5, x6, x7, x8, x9, x10, x11, x12, x13, x14, x15, x16, x17, x18, x19, x20, x21, x22, x23, x24, x25, x26], _ =>
        obtain rfl : ds = [] := hF.defers
        have f3 : x7 = .int .i64 (3 * (n.keys.length : Int)) := F 3 (by kernel_rfl) 7 rfl
        subst f3
        have f6 : x10 = .int .i64 ((a : Nat)) := F 6 (by kernel_rfl) 10 rfl
        subst f6
        clear F hF
        have hJ1 := hJ
        obtain ⟨⟨c0, c1, c2, c3, _⟩, _, _⟩ := hJ1
        go_simp
        exact hK (.int .i64 (3 * (n.keys.length : Int) + (a : Nat))) _ hJ (Below.refl _ _) rfl
    refine Inv.from_cons _ _ _ _ rfl (fun _ a w hJ hF F K hK => ?_) ?_
    · obtain ⟨⟨l⟩, ds⟩ := a
      have hsz : l.length = 27 := hF.size
      match l, hsz with
      | [x0, x1, x2, x3, x4, x5, x6, x7, x8, x9, x10, x11, x12, x13, x14, x15, x16, x17, x18, x19, x20, x21, x22, x23, x24, x25, x26], _ =>
        obtain rfl : ds = [] := hF.defers
        obtain rfl : x1 = .pointer (some ⟨g, 0, none⟩) := hF.slot 1 (by kernel_rfl)
        clear F hF
        have hJ1 := hJ
        obtain ⟨⟨c0, c1, c2, c3, _⟩, _, _⟩ := hJ1
        go_simp
        exact hK (.pointer (some ⟨g, 2, none⟩)) _ hJ (Below.refl _ _) rfl
    refine Inv.from_cons _ _ _ _ rfl (fun _ a w hJ hF F K hK => ?_) ?_
    · obtain ⟨⟨l⟩, ds⟩ := a
      have hsz : l.length = 27 := hF.size
      match l, hsz with
      | [x0, x1, x2, x3, x4, x5, x6, x7, x8, x9, x10, x11, x12, x13, x14, x15, x16, x17, x18, x19, x20, x21, x22, x23, x24, x25, x26], _ =>
        obtain rfl : ds = [] := hF.defers
        have f8 : x12 = .pointer (some ⟨g, 2, none⟩) := F 8 (by kernel_rfl) 12 rfl
        subst f8
        clear F hF
        have hJ1 := hJ
        obtain ⟨⟨c0, c1, c2, c3, _⟩, _, _⟩ := hJ1
        go_simp
        exact hK (.slice h.V n.vals.length h.vc) _ hJ (Below.refl _ _) rfl
    refine Inv.from_cons _ _ _ _ rfl (fun _ a w hJ hF F K hK => ?_) ?_
    · obtain ⟨⟨l⟩, ds⟩ := a
      have hsz : l.length = 27 := hF.size
      match l, hsz with
      | [x0, x1, x2, x3, x4, x5, x6, x7, x8, x9, x10, x11, x12, x13, x14, x15, x16, x17, x18, x19, x20, x21, x22, x23, x24, x25, x26], _ =>
        obtain rfl : ds = [] := hF.defers
        have f6 : x10 = .int .i64 ((a : Nat)) := F 6 (by kernel_rfl) 10 rfl
        subst f6
        have f9 : x13 = .slice h.V n.vals.length h.vc := F 9 (by kernel_rfl) 13 rfl
        subst f9
        clear F hF
        have hJ1 := hJ
        obtain ⟨⟨c0, c1, c2, c3, _⟩, _, _⟩ := hJ1
        have hh := H2.out w hJ.2.1
        go_simp
        (with_reducible refine hh.mono ?_)
        rintro e w' ⟨rfl, rfl⟩
        go_simp
        exact hK _ _ hJ (Below.refl _ _) rfl
    refine Inv.from_cons _ _ _ _ rfl (fun _ a w hJ hF F K hK => ?_) ?_
    · obtain ⟨⟨l⟩, ds⟩ := a
      have hsz : l.length = 27 := hF.size
      match l, hsz with
      | [x0, x1, x2, x3, x4, x5, x6, x7, x8, x9, x10, x11, x12, x13, x14, x15, x16, x17, x18, x19, x20, x21, x22, x23, x24, x25, x26], _ =>
        obtain rfl : ds = [] := hF.defers
        have f7 : x11 = .int .i64 (3 * (n.keys.length : Int) + (a : Nat)) := F 7 (by kernel_rfl) 11 rfl
        subst f7
        have f10 : x14 = .int .i64 ((b : Nat)) := F 10 (by kernel_rfl) 14 rfl
        subst f10
        clear F hF
        have hJ1 := hJ
        obtain ⟨⟨c0, c1, c2, c3, _⟩, _, _⟩ := hJ1
        go_simp
        exact hK (.int .i64 (3 * (n.keys.length : Int) + (a : Nat) + (b : Nat))) _ hJ (Below.refl _ _) rfl
    refine Inv.from_cons _ _ _ _ rfl (fun _ a w hJ hF F K hK => ?_) ?_
    · obtain ⟨⟨l⟩, ds⟩ := a
      have hsz : l.length = 27 := hF.size
      match l, hsz with
      | [x0, x1, x2, x3, x4, x5, x6, x7, x8, x9, x10, x11, x12, x13, x14, x15, x16, x17, x18, x19, x20, x21, x22, x23, x24, x25, x26], _ =>
        obtain rfl : ds = [] := hF.defers
        obtain rfl : x1 = .pointer (some ⟨g, 0, none⟩) := hF.slot 1 (by kernel_rfl)
        clear F hF
        have hJ1 := hJ
        obtain ⟨⟨c0, c1, c2, c3, _⟩, _, _⟩ := hJ1
        go_simp
        exact hK (.pointer (some ⟨g, 3, none⟩)) _ hJ (Below.refl _ _) rfl
    refine Inv.from_cons _ _ _ _ rfl (fun _ a w hJ hF F K hK => ?_) ?_
    · obtain ⟨⟨l⟩, ds⟩ := a
      have hsz : l.length = 27 := hF.size
      match l, hsz with
      | [x0, x1, x2, x3, x4, x5, x6, x7, x8, x9, x10, x11, x12, x13, x14, x15, x16, x17, x18, x19, x20, x21, x22, x23, x24, x25, x26], _ =>
        obtain rfl : ds = [] := hF.defers
        have f12 : x16 = .pointer (some ⟨g, 3, none⟩) := F 12 (by kernel_rfl) 16 rfl
        subst f12
        clear F hF
        have hJ1 := hJ
        obtain ⟨⟨c0, c1, c2, c3, _⟩, _, _⟩ := hJ1
        go_simp
        exact hK (.slice h.D n.kids.length h.dc) _ hJ (Below.refl _ _) rfl
    refine Inv.from_cons _ _ _ _ rfl (fun _ a w hJ hF F K hK => ?_) ?_
    · obtain ⟨⟨l⟩, ds⟩ := a
      have hsz : l.length = 27 := hF.size
      match l, hsz with
      | [x0, x1, x2, x3, x4, x5, x6, x7, x8, x9, x10, x11, x12, x13, x14, x15, x16, x17, x18, x19, x20, x21, x22, x23, x24, x25, x26], _ =>
        obtain rfl : ds = [] := hF.defers
        have f13 : x17 = .slice h.D n.kids.length h.dc := F 13 (by kernel_rfl) 17 rfl
        subst f13
        clear F hF
        have hJ1 := hJ
        obtain ⟨⟨c0, c1, c2, c3, _⟩, _, _⟩ := hJ1
        go_simp
        exact hK (.int .i64 ((n.kids.length : Int))) _ hJ (Below.refl _ _) rfl
    refine Inv.from_cons _ _ _ _ rfl (fun _ a w hJ hF F K hK => ?_) ?_
    · obtain ⟨⟨l⟩, ds⟩ := a
      have hsz : l.length = 27 := hF.size
      match l, hsz with
      | [x0, x1, x2, x3, x4, x5, x6, x7, x8, x9, x10, x11, x12, x13, x14, x15, x16, x17, x18, x19, x20, x21, x22, x23, x24, x25, x26], _ =>
        obtain rfl : ds = [] := hF.defers
        have f14 : x18 = .int .i64 ((n.kids.length : Int)) := F 14 (by kernel_rfl) 18 rfl
        subst f14
        clear F hF
        have hJ1 := hJ
        obtain ⟨⟨c0, c1, c2, c3, _⟩, _, _⟩ := hJ1
        go_simp
        exact hK (.int .i64 (4 * (n.kids.length : Int))) _ hJ (Below.refl _ _) rfl
    refine Inv.from_cons _ _ _ _ rfl (fun _ a w hJ hF F K hK => ?_) ?_
    · obtain ⟨⟨l⟩, ds⟩ := a
      have hsz : l.length = 27 := hF.size
      match l, hsz with
      | [x0, x1, x2, x3, x4, x5, x6, x7, x8, x9, x10, x11, x12, x13, x14, x15, x16, x17, x18, x19, x20, x21, x22, x23, x24, x25, x26], _ =>
        obtain rfl : ds = [] := hF.defers
        have f11 : x15 = .int .i64 (3 * (n.keys.length : Int) + (a : Nat) + (b : Nat)) := F 11 (by kernel_rfl) 15 rfl
        subst f11
        have f15 : x19 = .int .i64 (4 * (n.kids.length : Int)) := F 15 (by kernel_rfl) 19 rfl
        subst f15
        clear F hF
        have hJ1 := hJ
        obtain ⟨⟨c0, c1, c2, c3, _⟩, _, _⟩ := hJ1
        go_simp
        exact hK (.int .i64 (3 * (n.keys.length : Int) + (a : Nat) + (b : Nat) + 4 * (n.kids.length : Int))) _ hJ (Below.refl _ _) rfl
    refine Inv.from_skip _ _ _ _ rfl ?_
    exact Inv.from_end _ _ _ _ (by decide +kernel)
  · intro o ho a w hJ hF F K hK
    injection (show some _ = some o from ho) with ho
    subst ho
    obtain ⟨⟨l⟩, ds⟩ := a
    have hsz : l.length = 27 := hF.size
    match l, hsz with
    | [x0, x1, x2, x3, x4, x5, x6, x7, x8, x9, x10, x11, x12, x13, x14, x15, x16, x17, x18, x19, x20, x21, x22, x23, x24, x25, x26], _ =>
      obtain rfl : ds = [] := hF.defers
      obtain rfl : x1 = .pointer (some ⟨g, 0, none⟩) := hF.slot 1 (by kernel_rfl)
      have f0 : x4 = .pointer (some ⟨g, 1, none⟩) := F 0 (by decide) 4 rfl
      have f1 : x5 = .slice h.K n.keys.length h.kc := F 1 (by decide) 5 rfl
      have f2 : x6 = .int .i64 ((n.keys.length : Int)) := F 2 (by decide) 6 rfl
      have f3 : x7 = .int .i64 (3 * (n.keys.length : Int)) := F 3 (by decide) 7 rfl
      have f4 : x8 = .pointer (some ⟨g, 1, none⟩) := F 4 (by decide) 8 rfl
      have f5 : x9 = .slice h.K n.keys.length h.kc := F 5 (by decide) 9 rfl
      have f6 : x10 = .int .i64 ((a : Nat)) := F 6 (by decide) 10 rfl
      have f7 : x11 = .int .i64 (3 * (n.keys.length : Int) + (a : Nat)) := F 7 (by decide) 11 rfl
      have f8 : x12 = .pointer (some ⟨g, 2, none⟩) := F 8 (by decide) 12 rfl
      have f9 : x13 = .slice h.V n.vals.length h.vc := F 9 (by decide) 13 rfl
      have f10 : x14 = .int .i64 ((b : Nat)) := F 10 (by decide) 14 rfl
      have f11 : x15 = .int .i64 (3 * (n.keys.length : Int) + (a : Nat) + (b : Nat)) := F 11 (by decide) 15 rfl
      have f12 : x16 = .pointer (some ⟨g, 3, none⟩) := F 12 (by decide) 16 rfl
      have f13 : x17 = .slice h.D n.kids.length h.dc := F 13 (by decide) 17 rfl
      have f14 : x18 = .int .i64 ((n.kids.length : Int)) := F 14 (by decide) 18 rfl
      have f15 : x19 = .int .i64 (4 * (n.kids.length : Int)) := F 15 (by decide) 19 rfl
      have f16 : x20 = .int .i64 (3 * (n.keys.length : Int) + (a : Nat) + (b : Nat) + 4 * (n.kids.length : Int)) := F 16 (by decide) 20 rfl
      subst f0
      subst f1
      subst f2
      subst f3
      subst f4
      subst f5
      subst f6
      subst f7
      subst f8
      subst f9
      subst f10
      subst f11
      subst f12
      subst f13
      subst f14
      subst f15
      subst f16
      clear F hF
      have hJ1 := hJ
      obtain ⟨⟨c0, c1, c2, c3, _⟩, _, _⟩ := hJ1
      have HB := Lib.hid hJ.2.2
      go_simp
      refine hK _ _ ?_
      clear hK hJ
      cases hleaf : n.leaf with
      | true =>
        rw [hleaf] at c0 HR
        go_wp2_with fail
        go_ret
        exact ⟨ret_int (by rw [HR.out]; simp), by rw [HG.out]; exact HB.out⟩
      | false =>
        rw [hleaf] at c0 HR
        go_wp2_with fail
        go_ret
        exact ⟨ret_int (by rw [HR.out]; simp), by rw [HG.out]; exact HB.out⟩
  · intro hq; exact absurd hq (by decide +kernel)
set_option maxRecDepth 100000 in
set_option maxHeartbeats 1600000 in
theorem rroom_any (W : World) (n : Nd) (h : Hd) (hl : Lay W n h) (hs : Small n) :
    Calls Try.prog 19 #[nv n h] W fun e w' => e = .returned (.int .i64 (room n : Nat)) ∧ Below W.heap.size W w' := by
  have hb0 := box_below W n h
  have hx0 := bx_new W n h
  have hl0 := hl.below hb0
  obtain ⟨w0, hw0⟩ : ∃ v, v = box W n h := ⟨_, rfl⟩
  rw [← hw0] at hb0 hx0 hl0
  unfold box at hw0
  have HW0 := Lib.hid hw0
  clear hw0 hl
  have hk := hs.k
  have hv := hs.v
  have hd := hs.d
  have t1 := tot_le n.keys 1000 hs.ks
  have t2 := tot_le n.vals 1000 hs.vs
  have hrk := hl0.k
  have hrv := hl0.v
  have HX := Lib.hid hx0
  have HB := Lib.hid hb0
  have HR := Lib.hid (show room n = 3 * n.keys.length + tot n.keys + tot n.vals + 4 * n.kids.length + (if n.leaf then 0 else 2) from rfl)
  have HTK := Lib.hid (fun k hk => tot_take n.keys k hk)
  have HTV := Lib.hid (fun k hk => tot_take n.vals k hk)
  have HSK := Lib.hid (show ∀ k, tot (n.keys.take k) ≤ tot n.keys from fun k => by
    have := tot_append (n.keys.take k) (n.keys.drop k); rw [List.take_append_drop] at this; omega)
  have HSV := Lib.hid (show ∀ k, tot (n.vals.take k) ≤ tot n.vals from fun k => by
    have := tot_append (n.vals.take k) (n.vals.drop k); rw [List.take_append_drop] at this; omega)
  clear hl0 hs hb0 hx0
  go_enter Try.func19, Try.ntmps19
  go_wp2_with fail
  rw [← HW0.out]
  obtain ⟨c0, c1, c2, c3, _⟩ := HX.out
  clear HW0
  go_loop [3, 4] (fun v i => ∃ k : Nat, k ≤ n.keys.length ∧ i = .int .i64 k ∧ v = .int .i64 ((3 * k + tot (n.keys.take k) : Nat) : Int)) (fun _ i => n.keys.length - (intOf i).toNat)
  case atStart => exact ⟨0, by omega, rfl, by simp [tot]⟩
  case round =>
    obtain ⟨k, hk, rfl, rfl⟩ := hrel
    by_cases hlt : k < n.keys.length
    · have HT := Lib.hid (HTK.out k hlt)
      have h1 := HSK.out (k + 1)
      rw [HT.out] at h1
      obtain ⟨ad, hKe, hb, hc⟩ := strs_get hrk k hlt
      rw [hKe] at c1
      clear hKe
      generalize n.keys[k] = q at *
      generalize tot (n.keys.take k) = t at *
      go_wp2_with fail
      go_round
      case rel => exact ⟨k + 1, by omega, by go_num, by rw [HT.out]; go_num⟩
      case measure => simp [intOf]; omega
    · obtain rfl : k = n.keys.length := by omega
      rw [List.take_of_length_le (Nat.le_refl _)]
      generalize tot n.keys = a at *
      go_wp2_with fail
      go_loop [3, 5] (fun v i => ∃ k : Nat, k ≤ n.vals.length ∧ i = .int .i64 k ∧ v = .int .i64 ((3 * n.keys.length + a + tot (n.vals.take k) : Nat) : Int)) (fun _ i => n.vals.length - (intOf i).toNat)
      case atStart => exact ⟨0, by omega, rfl, by simp [tot]⟩
      case round =>
        obtain ⟨k, hk, rfl, rfl⟩ := hrel
        by_cases hlt2 : k < n.vals.length
        · have HT := Lib.hid (HTV.out k hlt2)
          have h1 := HSV.out (k + 1)
          rw [HT.out] at h1
          obtain ⟨ad, hVe, hb, hc⟩ := strs_get hrv k hlt2
          rw [hVe] at c2
          clear hVe
          generalize n.vals[k] = q at *
          generalize tot (n.vals.take k) = t at *
          go_wp2_with fail
          go_round
          case rel => exact ⟨k + 1, by omega, by go_num, by rw [HT.out]; go_num⟩
          case measure => simp [intOf]; omega
        · obtain rfl : k = n.vals.length := by omega
          rw [List.take_of_length_le (Nat.le_refl _)]
          generalize tot n.vals = b at *
          cases hleaf : n.leaf with
          | true =>
            rw [hleaf] at c0 HR
            go_wp2_with fail
            go_ret
            exact ⟨ret_int (by rw [HR.out]; simp), HB.out⟩
          | false =>
            rw [hleaf] at c0 HR
            go_wp2_with fail
            go_ret
            exact ⟨ret_int (by rw [HR.out]; simp; omega), HB.out⟩
set_option maxRecDepth 100000 in
set_option maxHeartbeats 1600000 in
theorem few_any (W : World) (n : Nd) (h : Hd) (hl : Lay W n h) (hk : n.keys.length ≤ maxLen) (hv : n.vals.length ≤ maxLen) (b : Bool) (hbb : b = true ↔ Few n) :
    Calls Try.prog 14 #[nv n h] W fun e w' => e = .returned (.bool b) ∧ Below W.heap.size W w' := by
  unfold maxLen at hk hv
  have hb0 := box_below W n h
  have hx0 := bx_new W n h
  have hl0 := hl.below hb0
  obtain ⟨w0, hw0⟩ : ∃ v, v = box W n h := ⟨_, rfl⟩
  rw [← hw0] at hb0 hx0 hl0
  unfold box at hw0
  have HW0 := Lib.hid hw0
  clear hw0 hl
  have hrk := hl0.k
  have hrv := hl0.v
  have HX := Lib.hid hx0
  have HB := Lib.hid hb0
  have HBB := Lib.hid hbb
  obtain ⟨c0, c1, c2, c3, _⟩ := hx0
  clear hl0 hb0 hbb
  have hcase : 100 < n.keys.length ∨ (n.keys.length ≤ 100 ∧ 100 < n.vals.length) ∨ (n.keys.length ≤ 100 ∧ n.vals.length ≤ 100 ∧ 101 < n.kids.length) ∨ (n.keys.length ≤ 100 ∧ n.vals.length ≤ 100 ∧ n.kids.length ≤ 101) := by omega
  rcases hcase with g | ⟨g1, g2⟩ | ⟨g1, g2, g3⟩ | ⟨g1, g2, g3⟩
  · have HN := Lib.hid (show b = false from Bool.eq_false_iff.2 fun q => by have := (HBB.out.1 q).1; omega)
    have e1 : decide ((100 : Int) < (n.keys.length : Int)) = true := decide_eq_true (by omega)
    go_enter Try.func14, Try.ntmps14
    go_wp2_with fail
    rw [← HW0.out]
    go_wp2_with fail
    go_ret
    exact ⟨ret_bool HN.out.symm, HB.out⟩
  · have HN := Lib.hid (show b = false from Bool.eq_false_iff.2 fun q => by have := (HBB.out.1 q).2.1; omega)
    have e1 : decide ((100 : Int) < (n.keys.length : Int)) = false := decide_eq_false (by omega)
    have e2 : decide ((100 : Int) < (n.vals.length : Int)) = true := decide_eq_true (by omega)
    go_enter Try.func14, Try.ntmps14
    go_wp2_with fail
    rw [← HW0.out]
    go_wp2_with fail
    go_ret
    exact ⟨ret_bool HN.out.symm, HB.out⟩
  · have HN := Lib.hid (show b = false from Bool.eq_false_iff.2 fun q => by have := (HBB.out.1 q).2.2.1; omega)
    have e1 : decide ((100 : Int) < (n.keys.length : Int)) = false := decide_eq_false (by omega)
    have e2 : decide ((100 : Int) < (n.vals.length : Int)) = false := decide_eq_false (by omega)
    have e3 : decide ((101 : Int) < (n.kids.length : Int)) = true := decide_eq_true (by omega)
    go_enter Try.func14, Try.ntmps14
    go_wp2_with fail
    rw [← HW0.out]
    go_wp2_with fail
    go_ret
    exact ⟨ret_bool HN.out.symm, HB.out⟩
  · have e1 : decide ((100 : Int) < (n.keys.length : Int)) = false := decide_eq_false (by omega)
    have e2 : decide ((100 : Int) < (n.vals.length : Int)) = false := decide_eq_false (by omega)
    have e3 : decide ((101 : Int) < (n.kids.length : Int)) = false := decide_eq_false (by omega)
    go_enter Try.func14, Try.ntmps14
    go_wp2_with fail
    rw [← HW0.out]
    go_wp2_with fail
    go_loop [3] (fun i => ∃ k : Nat, k ≤ n.keys.length ∧ i = .int .i64 k ∧ ∀ (j : Nat) (h : j < n.keys.length), j < k → n.keys[j].size ≤ 300) (fun i => n.keys.length - (intOf i).toNat)
    case atStart => exact ⟨0, by omega, rfl, by intro j h q; omega⟩
    case round =>
      obtain ⟨k, hk, rfl, hpre⟩ := hrel
      have HP := Lib.hid hpre
      clear hpre
      by_cases hlt1 : k < n.keys.length
      · obtain ⟨ad, hKe, hb, hcell⟩ := strs_get hrk k hlt1
        rw [hKe] at c1
        clear hKe
        by_cases hq : 300 < n.keys[k].size
        · have HN := Lib.hid (show b = false from Bool.eq_false_iff.2 fun q => by have := (HBB.out.1 q).2.2.2.1 _ (List.getElem_mem hlt1); omega)
          have hq' : (300 : Int) < (n.keys[k].size : Int) := by omega
          generalize n.keys[k] = q at *
          go_wp2_with fail
          go_ret
          exact ⟨ret_bool HN.out.symm, HB.out⟩
        · have HN := Lib.hid (show ∀ (j : Nat) (h : j < n.keys.length), j < k + 1 → n.keys[j].size ≤ 300 from fun j h q => by
            by_cases e : j = k
            · subst e; omega
            · exact HP.out j h (by omega))
          generalize n.keys[k] = q at *
          go_wp2_with fail
          go_round
          case rel => exact ⟨k + 1, by omega, by go_num, HN.out⟩
          case measure => simp [intOf]; omega
      · have HNK := Lib.hid (show ∀ q ∈ n.keys, q.size ≤ 300 from fun t ht => by
          obtain ⟨j, hj, rfl⟩ := List.mem_iff_getElem.1 ht
          exact HP.out j hj (by omega))
        clear HP
        go_wp2_with fail
        go_loop [4] (fun i => ∃ k : Nat, k ≤ n.vals.length ∧ i = .int .i64 k ∧ ∀ (j : Nat) (h : j < n.vals.length), j < k → n.vals[j].size ≤ 300) (fun i => n.vals.length - (intOf i).toNat)
        case atStart => exact ⟨0, by omega, rfl, by intro j h q; omega⟩
        case round =>
          obtain ⟨m, hm, rfl, hpre⟩ := hrel
          have HP := Lib.hid hpre
          clear hpre
          by_cases hlt2 : m < n.vals.length
          · obtain ⟨ad, hVe, hb, hcell⟩ := strs_get hrv m hlt2
            rw [hVe] at c2
            clear hVe
            by_cases hq : 300 < n.vals[m].size
            · have HN := Lib.hid (show b = false from Bool.eq_false_iff.2 fun q => by have := (HBB.out.1 q).2.2.2.2 _ (List.getElem_mem hlt2); omega)
              have hq' : (300 : Int) < (n.vals[m].size : Int) := by omega
              generalize n.vals[m] = q at *
              go_wp2_with fail
              go_ret
              exact ⟨ret_bool HN.out.symm, HB.out⟩
            · have HN := Lib.hid (show ∀ (j : Nat) (h : j < n.vals.length), j < m + 1 → n.vals[j].size ≤ 300 from fun j h q => by
                by_cases e : j = m
                · subst e; omega
                · exact HP.out j h (by omega))
              generalize n.vals[m] = q at *
              go_wp2_with fail
              go_round
              case rel => exact ⟨m + 1, by omega, by go_num, HN.out⟩
              case measure => simp [intOf]; omega
          · have HT := Lib.hid (show b = true from HBB.out.2 ⟨g1, g2, g3, HNK.out, fun t ht => by
              obtain ⟨j, hj, rfl⟩ := List.mem_iff_getElem.1 ht
              exact HP.out j hj (by omega)⟩)
            go_wp2_with fail
            go_ret
            exact ⟨ret_bool HT.out.symm, HB.out⟩
end Go.Proofs.Ytpcpfcllgadghaa.NodeRoom
