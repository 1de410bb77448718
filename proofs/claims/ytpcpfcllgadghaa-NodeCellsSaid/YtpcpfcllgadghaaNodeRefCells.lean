/- The contract of the document's Cells. -/
import Derived.Test.YtpcpfcllgadghaaNodeRooms
import Derived.Test.YtpcpfcllgadghaaFrames
import Derived.Test.YtpcpfcllgadghaaInv2
import Derived.Test.YtpcpfcllgadghaaNodeWant
namespace Go.Proofs.Ytpcpfcllgadghaa.NodeRefCells
open Go.RowKit Base NodePlain NodeRead NodeSlice NodeCheck NodeBox NodeEnt NodeCells NodeRooms

set_option maxRecDepth 100000 in
set_option maxHeartbeats 6400000 in
theorem rcells_true (W : World) (n : Nd) (h : Hd) (hl : Lay W n h) (hs : Small n) (hok : Ok n) (hleaf : n.leaf = true) :
    Calls Try.prog 22 #[nv n h] W fun e w' => ∃ A m c, e = .returned (.slice A m c) ∧ SlO (W.heap.size + 1) (strs (cells n)) (.slice A m c) w' ∧ Below W.heap.size W w' := by
  have HSH := Lib.hid (Ok.short hok)
  have hf := hok.2.1
  rw [hleaf] at hf
  have hsk := hs.k
  have hb0 := box_below W n h
  have hx0 := bx_new W n h
  have hl0 := hl.below hb0
  have hsz : (box W n h).heap.size = W.heap.size + 1 := by simp
  obtain ⟨w1, hw1⟩ : ∃ v, v = box W n h := ⟨_, rfl⟩
  rw [← hw1] at hb0 hx0 hl0 hsz
  unfold box at hw1
  rw [hleaf] at hw1
  have HW1 := Lib.hid hw1
  have HSZ := Lib.hid hsz
  have HB0 := Lib.hid hb0
  have HLY := Lib.hid (fun (w' : World) (hw : Below w1.heap.size w1 w') => hl0.below hw)
  have HX := Lib.hid (fun (w' : World) (hw : Below w1.heap.size w1 w') => show w'.cell? ⟨W.heap.size, 0, none⟩ = some (.bool true) ∧ w'.cell? ⟨W.heap.size, 1, none⟩ = some (.slice h.K n.keys.length h.kc) ∧ w'.cell? ⟨W.heap.size, 2, none⟩ = some (.slice h.V n.vals.length h.vc) ∧ w'.cell? ⟨W.heap.size, 3, none⟩ = some (.slice h.D n.kids.length h.dc) by
    obtain ⟨c0, c1, c2, c3, _⟩ := hx0.below hw
    rw [hleaf] at c0
    exact ⟨c0, c1, c2, c3⟩)
  simp only [if_true] at hf
  have HLB := Lib.hid hf.1
  have HCE := Lib.hid (show cells n = ents n.keys n.vals by rw [cells, hleaf]; rfl)
  clear hw1 hb0 hx0 hl0 hsz hl hs hok hf
  have b2 := al w1 (.cells #[] 9)
  have hemp := Own.empty w1 9 (Nat.le_refl w1.heap.size)
  obtain ⟨c0, c1, c2, c3⟩ := HX.out w1 (Below.refl _ _)
  go_enter Try.func22, Try.ntmps22
  go_wp2_with fail
  rw [← HW1.out]
  clear HW1 c0 c1 c2 c3
  have hstart : Own (w1.alloc (.cells #[] 9)) w1.heap.size 9 (some ⟨W.heap.size + 1, 0, none⟩) 0 (strs (([] : List ByteArray) ++ ents (n.keys.take 0) (n.vals.take 0))) := by rw [← HSZ.out]; exact hemp
  have hbw2 := b2
  clear hemp b2
  generalize hg : W.heap.size = g at *
  have HG := Lib.hid hg
  clear hg
  go_loopw [3, 4] (fun v i wr => ∃ (k : Nat) (A : Option Addr) (c : Nat), k ≤ n.keys.length ∧ i = .int .i64 k ∧ v = .slice A (k) c ∧ Own wr w1.heap.size 9 A c (strs (([] : List ByteArray) ++ ents (n.keys.take k) (n.vals.take k))) ∧ Below w1.heap.size w1 wr) (fun _ i _ => n.keys.length - (intOf i).toNat)
  case atStart => exact ⟨0, _, _, by omega, rfl, rfl, hstart, hbw2⟩
  case round =>
    clear hstart hbw2
    obtain ⟨k, A, c, hk, rfl, rfl, hown, hb⟩ := hrel
    obtain ⟨_, c1, _, _⟩ := HX.out wr hb
    by_cases hlt : k < n.keys.length
    · obtain ⟨ad, hKA, hb1, hc1⟩ := strs_get (HLY.out w1 (Below.refl _ _)).k k hlt
      have HQ0 := Lib.hid (fun (w' : World) (hw : Below w1.heap.size w1 w') => (hw.cell (p := ad.add k) (by rw [blk_add]; exact hb1)).trans hc1)
      have HX0 := Lib.hid (fun (w' : World) (hw : Below w1.heap.size w1 w') => show w'.cell? ⟨g, 0, none⟩ = some (.bool true) ∧ w'.cell? ⟨g, 1, none⟩ = some (.slice (some ad) n.keys.length h.kc) ∧ w'.cell? ⟨g, 2, none⟩ = some (.slice h.V n.vals.length h.vc) ∧ w'.cell? ⟨g, 3, none⟩ = some (.slice h.D n.kids.length h.dc) by rw [← hKA]; exact HX.out w' hw)
      rw [hKA] at c1
      clear hKA hb1 hc1
      have hq255 : n.keys[k].size ≤ 255 := by have := HSH.out.1 _ (List.getElem_mem hlt); omega
      have hlb : k < n.vals.length := by rw [HLB.out]; exact hlt
      have hb300 : n.vals[k].size ≤ 100 := HSH.out.2 _ (List.getElem_mem hlb)
      have HT := Lib.hid (show strs (([] : List ByteArray) ++ ents (n.keys.take (k + 1)) (n.vals.take (k + 1))) = strs (([] : List ByteArray) ++ ents (n.keys.take k) (n.vals.take k)) ++ [.string (ent n.keys[k] n.vals[k])] by rw [ents_take k hlt hlb]; simp [strs])
      have HM := Lib.hid (show k = (strs (([] : List ByteArray) ++ ents (n.keys.take k) (n.vals.take k))).length by rw [strs_len, List.length_append]; simp [ents]; omega)
      generalize n.keys[k] = q at *
      generalize hbv : n.vals[k] = b at *
      have HBV := Lib.hid hbv
      clear hbv
      have hcc2 : (9223372036854775807 < 1 + q.size + b.size) = False := by simp; omega
      obtain ⟨L, hL⟩ : ∃ L, L = ([] : List ByteArray) ++ ents (n.keys.take k) (n.vals.take k) := ⟨_, rfl⟩
      rw [← hL] at HT HM hown
      clear hL
      go_wp2_with fail
      clear c1
      have hJ0 : (fun w' : World => Below w1.heap.size w1 w' ∧ Own w' w1.heap.size 9 A c (strs L)) (World.drew wr) := ⟨hb.drew, hown.drewN 1⟩
      clear hb hown
      clear HX
      have HX := HX0
      have HQ := HQ0
      clear HX0 HQ0
      have hsz := HSZ.out
      refine wp_region_any (by kernel_rfl) ?_
      change wpAny _ _ _ _ _ _ _ (World.drew _)
      refine Inv.inv_any (fun (i : Nat) (v : Value) (w : World) => match i with | 0 => v = .pointer (some ⟨g, 1, none⟩) | 1 => v = .slice (some ad) n.keys.length h.kc | 2 => v = .int .i64 (k : Int) | 3 => v = .pointer (some (ad.add k)) | 4 => v = .string q | 5 => v = .int .i64 (q.size : Int) | 6 => v = .int .u8 (IntKind.u8.wrap (q.size : Int)) | 7 => SlA (bv [UInt8.ofNat q.size]) v w | 8 => v = .string ⟨#[UInt8.ofNat q.size]⟩ | 9 => v = .pointer (some ⟨g, 1, none⟩) | 10 => v = .slice (some ad) n.keys.length h.kc | 11 => v = .int .i64 (k : Int) | 12 => v = .pointer (some (ad.add k)) | 13 => v = .string q | 14 => v = .string ((⟨#[UInt8.ofNat q.size]⟩ : ByteArray) ++ q) | _ => True) (fun w' : World => Below w1.heap.size w1 w' ∧ Own w' w1.heap.size 9 A c (strs L)) _ 15 63 rfl rfl rfl (by kernel_rfl) (by kernel_rfl) hJ0 ?_ ?_ ?_ ?_
      · intro j v w w' h hb
        match j, h with
        | 0, h => exact h
        | 1, h => exact h
        | 2, h => exact h
        | 3, h => exact h
        | 4, h => exact h
        | 5, h => exact h
        | 6, h => exact h
        | 7, h => exact SlA.below h hb
        | 8, h => exact h
        | 9, h => exact h
        | 10, h => exact h
        | 11, h => exact h
        | 12, h => exact h
        | 13, h => exact h
        | 14, h => exact h
        | 15, _ => exact trivial
        | (_ + 16), _ => exact trivial
      · skip
        refine Inv.from_cons _ _ _ _ rfl (fun _ a w hJ hF F K hK => ?_) ?_
        · have hz : a.tmps.size = 63 := hF.size
          have e1 : a.tmps[1]? = some (.pointer (some ⟨g, 0, none⟩)) := Inv2.some_slot (by rw [hz]; exact Nat.le_of_ble_eq_true rfl) (hF.slot 1 (by kernel_rfl))
          clear F hF hz
          have hJ1 := hJ
          obtain ⟨_, _⟩ := hJ1
          go_simp
          exact hK (.pointer (some ⟨g, 1, none⟩)) _ hJ (Below.refl _ _) rfl
        refine Inv.from_cons _ _ _ _ rfl (fun _ a w hJ hF F K hK => ?_) ?_
        · have hz : a.tmps.size = 63 := hF.size
          have e25 : a.tmps[25]? = some (.pointer (some ⟨g, 1, none⟩)) := Inv2.some_slot (by rw [hz]; exact Nat.le_of_ble_eq_true rfl) (F 0 (by kernel_rfl) 25 rfl)
          clear F hF hz
          have hJ1 := hJ
          obtain ⟨_, _⟩ := hJ1
          obtain ⟨_, d1, _⟩ := HX.out w hJ.1
          go_simp
          exact hK (.slice (some ad) n.keys.length h.kc) _ hJ (Below.refl _ _) rfl
        refine Inv.from_cons _ _ _ _ rfl (fun _ a w hJ hF F K hK => ?_) ?_
        · have hz : a.tmps.size = 63 := hF.size
          have e4 : a.tmps[4]? = some (.int .i64 (k : Int)) := Inv2.some_slot (by rw [hz]; exact Nat.le_of_ble_eq_true rfl) (hF.slot 4 (by kernel_rfl))
          clear F hF hz
          have hJ1 := hJ
          obtain ⟨_, _⟩ := hJ1
          go_simp
          exact hK (.int .i64 (k : Int)) _ hJ (Below.refl _ _) rfl
        refine Inv.from_cons _ _ _ _ rfl (fun _ a w hJ hF F K hK => ?_) ?_
        · have hz : a.tmps.size = 63 := hF.size
          have e26 : a.tmps[26]? = some (.slice (some ad) n.keys.length h.kc) := Inv2.some_slot (by rw [hz]; exact Nat.le_of_ble_eq_true rfl) (F 1 (by kernel_rfl) 26 rfl)
          have e27 : a.tmps[27]? = some (.int .i64 (k : Int)) := Inv2.some_slot (by rw [hz]; exact Nat.le_of_ble_eq_true rfl) (F 2 (by kernel_rfl) 27 rfl)
          clear F hF hz
          have hJ1 := hJ
          obtain ⟨_, _⟩ := hJ1
          go_simp
          exact hK (.pointer (some (ad.add k))) _ hJ (Below.refl _ _) rfl
        refine Inv.from_cons _ _ _ _ rfl (fun _ a w hJ hF F K hK => ?_) ?_
        · have hz : a.tmps.size = 63 := hF.size
          have e28 : a.tmps[28]? = some (.pointer (some (ad.add k))) := Inv2.some_slot (by rw [hz]; exact Nat.le_of_ble_eq_true rfl) (F 3 (by kernel_rfl) 28 rfl)
          clear F hF hz
          have hJ1 := hJ
          obtain ⟨_, _⟩ := hJ1
          have hcq := HQ.out w hJ.1
          go_simp
          exact hK (.string q) _ hJ (Below.refl _ _) rfl
        refine Inv.from_cons _ _ _ _ rfl (fun _ a w hJ hF F K hK => ?_) ?_
        · have hz : a.tmps.size = 63 := hF.size
          have e29 : a.tmps[29]? = some (.string q) := Inv2.some_slot (by rw [hz]; exact Nat.le_of_ble_eq_true rfl) (F 4 (by kernel_rfl) 29 rfl)
          clear F hF hz
          have hJ1 := hJ
          obtain ⟨_, _⟩ := hJ1
          go_simp
          exact hK (.int .i64 (q.size : Int)) _ hJ (Below.refl _ _) rfl
        refine Inv.from_cons _ _ _ _ rfl (fun _ a w hJ hF F K hK => ?_) ?_
        · have hz : a.tmps.size = 63 := hF.size
          have e30 : a.tmps[30]? = some (.int .i64 (q.size : Int)) := Inv2.some_slot (by rw [hz]; exact Nat.le_of_ble_eq_true rfl) (F 5 (by kernel_rfl) 30 rfl)
          clear F hF hz
          have hJ1 := hJ
          obtain ⟨_, _⟩ := hJ1
          go_simp
          exact hK (.int .u8 (IntKind.u8.wrap (q.size : Int))) _ hJ (Below.refl _ _) rfl
        refine Inv.from_cons _ _ _ _ rfl (fun _ a w hJ hF F K hK => ?_) ?_
        · have hz : a.tmps.size = 63 := hF.size
          have e31 : a.tmps[31]? = some (.int .u8 (IntKind.u8.wrap (q.size : Int))) := Inv2.some_slot (by rw [hz]; exact Nat.le_of_ble_eq_true rfl) (F 6 (by kernel_rfl) 31 rfl)
          clear F hF hz
          have hJ1 := hJ
          obtain ⟨_, _⟩ := hJ1
          go_simp
          exact hK _ _ ⟨bstep hJ.1 hJ.1.size (al _ _), hJ.2.later (al _ _)⟩ (al _ _) ⟨_, _, _, rfl, rfl, Nat.le_refl _, row_byte w q.size hq255⟩
        refine Inv.from_cons _ _ _ _ rfl (fun _ a w hJ hF F K hK => ?_) ?_
        · have hz : a.tmps.size = 63 := hF.size
          obtain ⟨x32, e32, f7⟩ : ∃ x, a.tmps[32]? = some x ∧ SlA (bv [UInt8.ofNat q.size]) x w := ⟨_, Inv2.some_slot (by rw [hz]; exact Nat.le_of_ble_eq_true rfl) rfl, F 7 (by kernel_rfl) 32 rfl⟩
          clear F hF hz
          have hJ1 := hJ
          obtain ⟨_, _⟩ := hJ1
          obtain ⟨A5, m5, c5, rfl, e5, _, hr5⟩ := f7
          have hcv := conv_row hr5 m5 c5 (by rw [e5]; rfl)
          clear e5 hr5
          go_simp
          exact hK _ _ hJ (Below.refl _ _) rfl
        refine Inv.from_cons _ _ _ _ rfl (fun _ a w hJ hF F K hK => ?_) ?_
        · have hz : a.tmps.size = 63 := hF.size
          have e1 : a.tmps[1]? = some (.pointer (some ⟨g, 0, none⟩)) := Inv2.some_slot (by rw [hz]; exact Nat.le_of_ble_eq_true rfl) (hF.slot 1 (by kernel_rfl))
          clear F hF hz
          have hJ1 := hJ
          obtain ⟨_, _⟩ := hJ1
          go_simp
          exact hK (.pointer (some ⟨g, 1, none⟩)) _ hJ (Below.refl _ _) rfl
        refine Inv.from_cons _ _ _ _ rfl (fun _ a w hJ hF F K hK => ?_) ?_
        · have hz : a.tmps.size = 63 := hF.size
          have e34 : a.tmps[34]? = some (.pointer (some ⟨g, 1, none⟩)) := Inv2.some_slot (by rw [hz]; exact Nat.le_of_ble_eq_true rfl) (F 9 (by kernel_rfl) 34 rfl)
          clear F hF hz
          have hJ1 := hJ
          obtain ⟨_, _⟩ := hJ1
          obtain ⟨_, d1, _⟩ := HX.out w hJ.1
          go_simp
          exact hK (.slice (some ad) n.keys.length h.kc) _ hJ (Below.refl _ _) rfl
        refine Inv.from_cons _ _ _ _ rfl (fun _ a w hJ hF F K hK => ?_) ?_
        · have hz : a.tmps.size = 63 := hF.size
          have e4 : a.tmps[4]? = some (.int .i64 (k : Int)) := Inv2.some_slot (by rw [hz]; exact Nat.le_of_ble_eq_true rfl) (hF.slot 4 (by kernel_rfl))
          clear F hF hz
          have hJ1 := hJ
          obtain ⟨_, _⟩ := hJ1
          go_simp
          exact hK (.int .i64 (k : Int)) _ hJ (Below.refl _ _) rfl
        refine Inv.from_cons _ _ _ _ rfl (fun _ a w hJ hF F K hK => ?_) ?_
        · have hz : a.tmps.size = 63 := hF.size
          have e35 : a.tmps[35]? = some (.slice (some ad) n.keys.length h.kc) := Inv2.some_slot (by rw [hz]; exact Nat.le_of_ble_eq_true rfl) (F 10 (by kernel_rfl) 35 rfl)
          have e36 : a.tmps[36]? = some (.int .i64 (k : Int)) := Inv2.some_slot (by rw [hz]; exact Nat.le_of_ble_eq_true rfl) (F 11 (by kernel_rfl) 36 rfl)
          clear F hF hz
          have hJ1 := hJ
          obtain ⟨_, _⟩ := hJ1
          go_simp
          exact hK (.pointer (some (ad.add k))) _ hJ (Below.refl _ _) rfl
        refine Inv.from_cons _ _ _ _ rfl (fun _ a w hJ hF F K hK => ?_) ?_
        · have hz : a.tmps.size = 63 := hF.size
          have e37 : a.tmps[37]? = some (.pointer (some (ad.add k))) := Inv2.some_slot (by rw [hz]; exact Nat.le_of_ble_eq_true rfl) (F 12 (by kernel_rfl) 37 rfl)
          clear F hF hz
          have hJ1 := hJ
          obtain ⟨_, _⟩ := hJ1
          have hcq := HQ.out w hJ.1
          go_simp
          exact hK (.string q) _ hJ (Below.refl _ _) rfl
        refine Inv.from_cons _ _ _ _ rfl (fun _ a w hJ hF F K hK => ?_) ?_
        · have hz : a.tmps.size = 63 := hF.size
          have e33 : a.tmps[33]? = some (.string ⟨#[UInt8.ofNat q.size]⟩) := Inv2.some_slot (by rw [hz]; exact Nat.le_of_ble_eq_true rfl) (F 8 (by kernel_rfl) 33 rfl)
          have e38 : a.tmps[38]? = some (.string q) := Inv2.some_slot (by rw [hz]; exact Nat.le_of_ble_eq_true rfl) (F 13 (by kernel_rfl) 38 rfl)
          clear F hF hz
          have hJ1 := hJ
          obtain ⟨_, _⟩ := hJ1
          have hcc1 : (9223372036854775807 < 1 + q.size) = False := by simp; omega
          go_simp
          exact hK _ _ hJ (Below.refl _ _) rfl
        refine Inv.from_skip _ _ _ _ rfl ?_
        exact Inv.from_end _ _ _ _ (by decide +kernel)
      · intro o ho a w hJ hF F K hK
        injection (show some _ = some o from ho) with ho
        subst ho
        obtain ⟨f, hf⟩ : ∃ f : Nat → Value, ∀ i, a.tmps.getD i undef = f i := ⟨_, fun _ => rfl⟩
        have g0 : f 0 = (nv n h) := (hf 0).symm.trans (hF.slot 0 (by kernel_rfl))
        have g1 : f 1 = (.pointer (some ⟨g, 0, none⟩)) := (hf 1).symm.trans (hF.slot 1 (by kernel_rfl))
        have g2 : f 2 = (.slice none 0 0) := (hf 2).symm.trans (hF.slot 2 (by kernel_rfl))
        have g3 : f 3 = (.slice A (k) c) := (hf 3).symm.trans (hF.slot 3 (by kernel_rfl))
        have g4 : f 4 = (.int .i64 (k : Int)) := (hf 4).symm.trans (hF.slot 4 (by kernel_rfl))
        have g6 : f 6 = (.slice (some ⟨g + 1, 0, none⟩) 0 0) := (hf 6).symm.trans (hF.slot 6 (by kernel_rfl))
        have g7 : f 7 = (.pointer (some ⟨g, 0, none⟩)) := (hf 7).symm.trans (hF.slot 7 (by kernel_rfl))
        have g8 : f 8 = (.bool true) := (hf 8).symm.trans (hF.slot 8 (by kernel_rfl))
        have g9 : f 9 = (.bool false) := (hf 9).symm.trans (hF.slot 9 (by kernel_rfl))
        have g10 : f 10 = (undef) := (hf 10).symm.trans (hF.slot 10 (by kernel_rfl))
        have g11 : f 11 = (undef) := (hf 11).symm.trans (hF.slot 11 (by kernel_rfl))
        have g12 : f 12 = (undef) := (hf 12).symm.trans (hF.slot 12 (by kernel_rfl))
        have g13 : f 13 = (undef) := (hf 13).symm.trans (hF.slot 13 (by kernel_rfl))
        have g14 : f 14 = (undef) := (hf 14).symm.trans (hF.slot 14 (by kernel_rfl))
        have g15 : f 15 = (undef) := (hf 15).symm.trans (hF.slot 15 (by kernel_rfl))
        have g16 : f 16 = (undef) := (hf 16).symm.trans (hF.slot 16 (by kernel_rfl))
        have g17 : f 17 = (undef) := (hf 17).symm.trans (hF.slot 17 (by kernel_rfl))
        have g62 : f 62 = (undef) := (hf 62).symm.trans (hF.slot 62 (by kernel_rfl))
        have g25 : f 25 = (.pointer (some ⟨g, 1, none⟩)) := (hf 25).symm.trans (F 0 (by decide) 25 rfl)
        have g26 : f 26 = (.slice (some ad) n.keys.length h.kc) := (hf 26).symm.trans (F 1 (by decide) 26 rfl)
        have g27 : f 27 = (.int .i64 (k : Int)) := (hf 27).symm.trans (F 2 (by decide) 27 rfl)
        have g28 : f 28 = (.pointer (some (ad.add k))) := (hf 28).symm.trans (F 3 (by decide) 28 rfl)
        have g29 : f 29 = (.string q) := (hf 29).symm.trans (F 4 (by decide) 29 rfl)
        have g30 : f 30 = (.int .i64 (q.size : Int)) := (hf 30).symm.trans (F 5 (by decide) 30 rfl)
        have g31 : f 31 = (.int .u8 (IntKind.u8.wrap (q.size : Int))) := (hf 31).symm.trans (F 6 (by decide) 31 rfl)
        obtain ⟨x32, g32⟩ : ∃ x, f 32 = x := ⟨_, rfl⟩
        have f7 : SlA (bv [UInt8.ofNat q.size]) x32 w := by rw [← g32, ← hf 32]; exact F 7 (by decide) 32 rfl
        have g33 : f 33 = (.string ⟨#[UInt8.ofNat q.size]⟩) := (hf 33).symm.trans (F 8 (by decide) 33 rfl)
        have g34 : f 34 = (.pointer (some ⟨g, 1, none⟩)) := (hf 34).symm.trans (F 9 (by decide) 34 rfl)
        have g35 : f 35 = (.slice (some ad) n.keys.length h.kc) := (hf 35).symm.trans (F 10 (by decide) 35 rfl)
        have g36 : f 36 = (.int .i64 (k : Int)) := (hf 36).symm.trans (F 11 (by decide) 36 rfl)
        have g37 : f 37 = (.pointer (some (ad.add k))) := (hf 37).symm.trans (F 12 (by decide) 37 rfl)
        have g38 : f 38 = (.string q) := (hf 38).symm.trans (F 13 (by decide) 38 rfl)
        have g39 : f 39 = (.string ((⟨#[UInt8.ofNat q.size]⟩ : ByteArray) ++ q)) := (hf 39).symm.trans (F 14 (by decide) 39 rfl)
        have ha := Frames.frame (show a.tmps.size = 63 from hF.size) hF.defers hf (l := [f 0, f 1, f 2, f 3, f 4, f 5, f 6, f 7, f 8, f 9, f 10, f 11, f 12, f 13, f 14, f 15, f 16, f 17, f 18, f 19, f 20, f 21, f 22, f 23, f 24, f 25, f 26, f 27, f 28, f 29, f 30, f 31, f 32, f 33, f 34, f 35, f 36, f 37, f 38, f 39, f 40, f 41, f 42, f 43, f 44, f 45, f 46, f 47, f 48, f 49, f 50, f 51, f 52, f 53, f 54, f 55, f 56, f 57, f 58, f 59, f 60, f 61, f 62]) rfl
        simp only [g0, g1, g2, g3, g4, g6, g7, g8, g9, g10, g11, g12, g13, g14, g15, g16, g17, g62, g25, g26, g27, g28, g29, g30, g31, g32, g33, g34, g35, g36, g37, g38, g39] at ha
        clear F hF hf g0 g1 g2 g3 g4 g6 g7 g8 g9 g10 g11 g12 g13 g14 g15 g16 g17 g62 g25 g26 g27 g28 g29 g30 g31 g32 g33 g34 g35 g36 g37 g38 g39
        subst ha
        have hJ1 := hJ
        obtain ⟨_, _⟩ := hJ1
        have hbw := hJ.1
        have hOW := hJ.2
        go_simp
        refine hK _ _ ?_
        clear hK hJ
        obtain ⟨c0, _, c2, _⟩ := HX.out w hbw
        obtain ⟨bd, hVe, hbb, hcb⟩ := strs_get (HLY.out w hbw).v k hlb
        rw [hVe] at c2
        clear hVe
        rw [HBV.out] at hcb
        have hrn : Row (w.alloc (.cells #[.string ((⟨#[UInt8.ofNat q.size]⟩ : ByteArray) ++ q ++ b)] 9)) (w.alloc (.cells #[.string ((⟨#[UInt8.ofNat q.size]⟩ : ByteArray) ++ q ++ b)] 9)).heap.size (some ⟨w.heap.size, 0, none⟩) [.string (ent q (b))] := row_one w _ _
        have hbs := hbw.size
        obtain ⟨A9, c9', w9, hrun, hown', hg⟩ := run_append_row (P := Try.prog) 22 el_s (c2 := 1) (hOW.alloc (.cells #[.string ((⟨#[UInt8.ofNat q.size]⟩ : ByteArray) ++ q ++ b)] 9)) hrn (by simp [Value.oneCell']) (by rw [← HM.out]; simp [maxLen]; omega) (by rw [← HM.out]; simp; omega) (by simp; omega)
        rw [← HM.out, show ([Value.string (ent q (b))] : List Value).length = 1 from rfl] at hrun
        have b8 : Below w1.heap.size w1 w9 := (hOW.alloc _).below (bstep hbw hbs (al _ _)) hg (Nat.le_refl _) (by simp; omega)
        clear hg hrn
        go_wp2_with (at_builtin; refine NodeWant.wpList_append_run rfl (.tmp 58) (.tmp 60) 22 22 rfl rfl rfl hrun ?_)
        go_roundw
        case rel => exact ⟨k + 1, A9, c9', by omega, by go_num, by go_num, by rw [HT.out]; exact hown', b8⟩
        case measure => simp [intOf]; omega
      · intro hq; exact absurd hq (by decide +kernel)
    · obtain rfl : k = n.keys.length := by omega
      have hq9 : (n.vals).take n.keys.length = n.vals := List.take_of_length_le (by rw [HLB.out]; exact Nat.le_refl _)
      have HE := Lib.hid (show ([] : List ByteArray) ++ ents (n.keys.take n.keys.length) (n.vals.take n.keys.length) = cells n by rw [HCE.out, List.take_length, hq9]; rfl)
      clear hq9
      rw [HE.out] at hown
      have HLN := Lib.hid (show n.keys.length = (strs (cells n)).length by rw [← HE.out, strs_len, List.length_append]; simp [ents]; have := HLB.out; omega)
      go_wp2_with fail
      go_ret
      have e1 := HSZ.out
      have e2 := HG.out
      exact ⟨_, _, _, rfl, by rw [e2, ← e1]; exact own_slo hown _ HLN.out, by rw [e2]; exact bstep HB0.out (by omega) hb⟩
set_option maxRecDepth 100000 in
set_option maxHeartbeats 6400000 in
theorem rcells_false (W : World) (n : Nd) (h : Hd) (hl : Lay W n h) (hs : Small n) (hok : Ok n) (hleaf : n.leaf = false) :
    Calls Try.prog 22 #[nv n h] W fun e w' => ∃ A m c, e = .returned (.slice A m c) ∧ SlO (W.heap.size + 1) (strs (cells n)) (.slice A m c) w' ∧ Below W.heap.size W w' := by
  have HSH := Lib.hid (Ok.short hok)
  have hf := hok.2.1
  rw [hleaf] at hf
  have hsk := hs.k
  simp only [Bool.false_eq_true, if_false] at hf
  have hk0 : 0 < n.kids.length := by omega
  obtain ⟨bd, hD, hbb, hcb⟩ := ints_get hl.d 0 hk0
  have hkr0 := hok.2.2.1 _ (List.getElem_mem hk0)
  obtain ⟨z0, hz0⟩ := Int.eq_ofNat_of_zero_le (show 0 ≤ n.kids[0] by omega)
  rw [hz0] at hcb hkr0
  have HDD := Lib.hid hD
  rw [show nv n h = .agg #[.bool n.leaf, .slice h.K n.keys.length h.kc, .slice h.V n.vals.length h.vc, .slice (some bd) n.kids.length h.dc] by simp only [nv, hD]]
  have hb0 := box_below W n h
  have hx0 := bx_new W n h
  have hl0 := hl.below hb0
  have hsz : (box W n h).heap.size = W.heap.size + 1 := by simp
  obtain ⟨w1, hw1⟩ : ∃ v, v = box W n h := ⟨_, rfl⟩
  rw [← hw1] at hb0 hx0 hl0 hsz
  unfold box at hw1
  have hw1' := hw1
  rw [hleaf, hD] at hw1
  have HW1 := Lib.hid hw1
  have HSZ := Lib.hid hsz
  have HB0 := Lib.hid hb0
  have HLY := Lib.hid (fun (w' : World) (hw : Below w1.heap.size w1 w') => hl0.below hw)
  have HX := Lib.hid (fun (w' : World) (hw : Below w1.heap.size w1 w') => show w'.cell? ⟨W.heap.size, 0, none⟩ = some (.bool false) ∧ w'.cell? ⟨W.heap.size, 1, none⟩ = some (.slice h.K n.keys.length h.kc) ∧ w'.cell? ⟨W.heap.size, 2, none⟩ = some (.slice h.V n.vals.length h.vc) ∧ w'.cell? ⟨W.heap.size, 3, none⟩ = some (.slice (some bd) n.kids.length h.dc) by
    obtain ⟨c0, c1, c2, c3, _⟩ := hx0.below hw
    rw [hleaf] at c0
    rw [hD] at c3
    exact ⟨c0, c1, c2, c3⟩)
  have HLB := Lib.hid hf.1
  have HCE := Lib.hid (show cells n = (texts n).take 1 ++ ents n.keys ((texts n).drop 1) by rw [cells, hleaf]; rfl)
  have HKR := Lib.hid hok.2.2.1
  have hcx : (w1.alloc (.cells #[] 9)).cell? (bd.add 0) = some (.int .i64 (z0 : Int)) := ((al w1 _).cell (p := bd.add 0) (by rw [blk_add, hsz]; omega)).trans ((hb0.cell (p := bd.add 0) (by rw [blk_add]; exact hbb)).trans hcb)
  have hcy : (w1.alloc (.cells #[] 9)).cell? bd = some (.int .i64 (z0 : Int)) := by have := hcx; rwa [show bd.add 0 = bd by simp [Addr.add]] at this
  rw [HW1.out] at hcx hcy
  have HT0 := Lib.hid (show (texts n).take 1 = [four z0] by
    rw [texts]
    cases hk : n.kids with
    | nil => rw [hk] at hk0; simp at hk0
    | cons x l =>
      have hx : x = (z0 : Int) := by simpa [hk] using hz0
      simp [hx])
  clear hw1 hw1' hb0 hx0 hl0 hsz hl hs hok hf hD hcb hz0 hbb
  have b2 := al w1 (.cells #[] 9)
  have hemp := Own.empty w1 9 (Nat.le_refl w1.heap.size)
  obtain ⟨c0, c1, c2, c3⟩ := HX.out w1 (Below.refl _ _)
  go_enter Try.func22, Try.ntmps22
  go_wp2_with fail
  rw [← HW1.out]
  clear HW1 c0 c1 c2 c3 hcx hcy
  refine (rfour_any _ z0 (by omega)).mono ?_
  rintro e w2 ⟨rfl, b2'⟩
  have hemp2 : Own w2 w1.heap.size 9 (some ⟨W.heap.size + 1, 0, none⟩) 0 [] := by rw [← HSZ.out]; exact hemp.later b2'
  have b12 := Below.step b2 b2'
  have hbs := b12.size
  have HTX := Lib.hid (show strs ((texts n).take 1 ++ ents (n.keys.take 0) (((texts n).drop 1).take 0)) = [.string (four z0)] by rw [HT0.out]; rfl)
  have hrn := row_one w2 (.string (four z0)) 9
  go_wp2_with (at_builtin; refine wpList_append_row rfl (.tmp 10) (.tmp 16) 22 rfl el_s (A := some ⟨W.heap.size + 1, 0, none⟩) (c := 0) (n := 0) (m := 1) (xs := []) (news := [.string (four z0)]) rfl rfl (hemp2.alloc _) rfl rfl hrn (by simp [Value.oneCell']) (by simp [maxLen]) (by simp) (by simp; omega) ?_; intro A3 c3' w8 hown' hg; have hbw2 : Below w1.heap.size w1 w8 := (hemp2.alloc _).below (bstep b12 hbs (al _ _)) hg (Nat.le_refl _) (by simp; omega); clear hg)
  have hstart : Own w8 w1.heap.size 9 A3 c3' (strs ((texts n).take 1 ++ ents (n.keys.take 0) (((texts n).drop 1).take 0))) := by rw [HTX.out]; exact hown'
  clear hown' hrn hemp2 b12 hbs hemp b2 b2'
  generalize hg : W.heap.size = g at *
  have HG := Lib.hid hg
  clear hg
  go_loopw [3, 4] (fun v i wr => ∃ (k : Nat) (A : Option Addr) (c : Nat), k ≤ n.keys.length ∧ i = .int .i64 k ∧ v = .slice A (k + 1) c ∧ Own wr w1.heap.size 9 A c (strs (((texts n).take 1) ++ ents (n.keys.take k) (((texts n).drop 1).take k))) ∧ Below w1.heap.size w1 wr) (fun _ i _ => n.keys.length - (intOf i).toNat)
  case atStart => exact ⟨0, _, _, by omega, rfl, rfl, hstart, hbw2⟩
  case round =>
    clear hstart hbw2
    obtain ⟨k, A, c, hk, rfl, rfl, hown, hb⟩ := hrel
    obtain ⟨_, c1, _, _⟩ := HX.out wr hb
    by_cases hlt : k < n.keys.length
    · obtain ⟨ad, hKA, hb1, hc1⟩ := strs_get (HLY.out w1 (Below.refl _ _)).k k hlt
      have HQ0 := Lib.hid (fun (w' : World) (hw : Below w1.heap.size w1 w') => (hw.cell (p := ad.add k) (by rw [blk_add]; exact hb1)).trans hc1)
      have HX0 := Lib.hid (fun (w' : World) (hw : Below w1.heap.size w1 w') => show w'.cell? ⟨g, 0, none⟩ = some (.bool false) ∧ w'.cell? ⟨g, 1, none⟩ = some (.slice (some ad) n.keys.length h.kc) ∧ w'.cell? ⟨g, 2, none⟩ = some (.slice h.V n.vals.length h.vc) ∧ w'.cell? ⟨g, 3, none⟩ = some (.slice (some bd) n.kids.length h.dc) by rw [← hKA]; exact HX.out w' hw)
      rw [hKA] at c1
      clear hKA hb1 hc1
      have hq255 : n.keys[k].size ≤ 255 := by have := HSH.out.1 _ (List.getElem_mem hlt); omega
      have hlk : k + 1 < n.kids.length := by rw [HLB.out]; omega
      have hkr := HKR.out _ (List.getElem_mem hlk)
      obtain ⟨z, hZ⟩ := Int.eq_ofNat_of_zero_le (show 0 ≤ n.kids[k + 1] by omega)
      rw [hZ] at hkr
      have HZ := Lib.hid hZ
      have hlb : k < ((texts n).drop 1).length := by rw [List.length_drop, texts, List.length_map]; omega
      have htk : ((texts n).drop 1)[k] = four z := by rw [List.getElem_drop]; simp only [texts, List.getElem_map]; rw [show n.kids[1 + k]'(by omega) = n.kids[k + 1] from by congr 1; omega, hZ]; rfl
      have HT := Lib.hid (show strs (((texts n).take 1) ++ ents (n.keys.take (k + 1)) (((texts n).drop 1).take (k + 1))) = strs (((texts n).take 1) ++ ents (n.keys.take k) (((texts n).drop 1).take k)) ++ [.string (ent n.keys[k] (four z))] by rw [ents_take k hlt hlb, htk]; simp [strs])
      clear htk hZ
      have HM := Lib.hid (show k + 1 = (strs (((texts n).take 1) ++ ents (n.keys.take k) (((texts n).drop 1).take k))).length by rw [strs_len, List.length_append]; simp [ents, texts]; omega)
      generalize n.keys[k] = q at *
      have hcc2 : (9223372036854775807 < 1 + q.size + (four z).size) = False := by rw [four_size]; simp; omega
      obtain ⟨L, hL⟩ : ∃ L, L = ((texts n).take 1) ++ ents (n.keys.take k) (((texts n).drop 1).take k) := ⟨_, rfl⟩
      rw [← hL] at HT HM hown
      clear hL
      go_wp2_with fail
      clear c1
      have hJ0 : (fun w' : World => Below w1.heap.size w1 w' ∧ Own w' w1.heap.size 9 A c (strs L)) (World.drew wr) := ⟨hb.drew, hown.drewN 1⟩
      clear hb hown
      clear HX
      have HX := HX0
      have HQ := HQ0
      clear HX0 HQ0
      have hsz := HSZ.out
      refine wp_region_any (by kernel_rfl) ?_
      change wpAny _ _ _ _ _ _ _ (World.drew _)
      refine Inv.inv_any (fun (i : Nat) (v : Value) (w : World) => match i with | 0 => v = .pointer (some ⟨g, 1, none⟩) | 1 => v = .slice (some ad) n.keys.length h.kc | 2 => v = .int .i64 (k : Int) | 3 => v = .pointer (some (ad.add k)) | 4 => v = .string q | 5 => v = .int .i64 (q.size : Int) | 6 => v = .int .u8 (IntKind.u8.wrap (q.size : Int)) | 7 => SlA (bv [UInt8.ofNat q.size]) v w | 8 => v = .string ⟨#[UInt8.ofNat q.size]⟩ | 9 => v = .pointer (some ⟨g, 1, none⟩) | 10 => v = .slice (some ad) n.keys.length h.kc | 11 => v = .int .i64 (k : Int) | 12 => v = .pointer (some (ad.add k)) | 13 => v = .string q | 14 => v = .string ((⟨#[UInt8.ofNat q.size]⟩ : ByteArray) ++ q) | _ => True) (fun w' : World => Below w1.heap.size w1 w' ∧ Own w' w1.heap.size 9 A c (strs L)) _ 15 63 rfl rfl rfl (by kernel_rfl) (by kernel_rfl) hJ0 ?_ ?_ ?_ ?_
      · intro j v w w' h hb
        match j, h with
        | 0, h => exact h
        | 1, h => exact h
        | 2, h => exact h
        | 3, h => exact h
        | 4, h => exact h
        | 5, h => exact h
        | 6, h => exact h
        | 7, h => exact SlA.below h hb
        | 8, h => exact h
        | 9, h => exact h
        | 10, h => exact h
        | 11, h => exact h
        | 12, h => exact h
        | 13, h => exact h
        | 14, h => exact h
        | 15, _ => exact trivial
        | (_ + 16), _ => exact trivial
      · skip
        refine Inv.from_cons _ _ _ _ rfl (fun _ a w hJ hF F K hK => ?_) ?_
        · have hz : a.tmps.size = 63 := hF.size
          have e1 : a.tmps[1]? = some (.pointer (some ⟨g, 0, none⟩)) := Inv2.some_slot (by rw [hz]; exact Nat.le_of_ble_eq_true rfl) (hF.slot 1 (by kernel_rfl))
          clear F hF hz
          have hJ1 := hJ
          obtain ⟨_, _⟩ := hJ1
          go_simp
          exact hK (.pointer (some ⟨g, 1, none⟩)) _ hJ (Below.refl _ _) rfl
        refine Inv.from_cons _ _ _ _ rfl (fun _ a w hJ hF F K hK => ?_) ?_
        · have hz : a.tmps.size = 63 := hF.size
          have e25 : a.tmps[25]? = some (.pointer (some ⟨g, 1, none⟩)) := Inv2.some_slot (by rw [hz]; exact Nat.le_of_ble_eq_true rfl) (F 0 (by kernel_rfl) 25 rfl)
          clear F hF hz
          have hJ1 := hJ
          obtain ⟨_, _⟩ := hJ1
          obtain ⟨_, d1, _⟩ := HX.out w hJ.1
          go_simp
          exact hK (.slice (some ad) n.keys.length h.kc) _ hJ (Below.refl _ _) rfl
        refine Inv.from_cons _ _ _ _ rfl (fun _ a w hJ hF F K hK => ?_) ?_
        · have hz : a.tmps.size = 63 := hF.size
          have e4 : a.tmps[4]? = some (.int .i64 (k : Int)) := Inv2.some_slot (by rw [hz]; exact Nat.le_of_ble_eq_true rfl) (hF.slot 4 (by kernel_rfl))
          clear F hF hz
          have hJ1 := hJ
          obtain ⟨_, _⟩ := hJ1
          go_simp
          exact hK (.int .i64 (k : Int)) _ hJ (Below.refl _ _) rfl
        refine Inv.from_cons _ _ _ _ rfl (fun _ a w hJ hF F K hK => ?_) ?_
        · have hz : a.tmps.size = 63 := hF.size
          have e26 : a.tmps[26]? = some (.slice (some ad) n.keys.length h.kc) := Inv2.some_slot (by rw [hz]; exact Nat.le_of_ble_eq_true rfl) (F 1 (by kernel_rfl) 26 rfl)
          have e27 : a.tmps[27]? = some (.int .i64 (k : Int)) := Inv2.some_slot (by rw [hz]; exact Nat.le_of_ble_eq_true rfl) (F 2 (by kernel_rfl) 27 rfl)
          clear F hF hz
          have hJ1 := hJ
          obtain ⟨_, _⟩ := hJ1
          go_simp
          exact hK (.pointer (some (ad.add k))) _ hJ (Below.refl _ _) rfl
        refine Inv.from_cons _ _ _ _ rfl (fun _ a w hJ hF F K hK => ?_) ?_
        · have hz : a.tmps.size = 63 := hF.size
          have e28 : a.tmps[28]? = some (.pointer (some (ad.add k))) := Inv2.some_slot (by rw [hz]; exact Nat.le_of_ble_eq_true rfl) (F 3 (by kernel_rfl) 28 rfl)
          clear F hF hz
          have hJ1 := hJ
          obtain ⟨_, _⟩ := hJ1
          have hcq := HQ.out w hJ.1
          go_simp
          exact hK (.string q) _ hJ (Below.refl _ _) rfl
        refine Inv.from_cons _ _ _ _ rfl (fun _ a w hJ hF F K hK => ?_) ?_
        · have hz : a.tmps.size = 63 := hF.size
          have e29 : a.tmps[29]? = some (.string q) := Inv2.some_slot (by rw [hz]; exact Nat.le_of_ble_eq_true rfl) (F 4 (by kernel_rfl) 29 rfl)
          clear F hF hz
          have hJ1 := hJ
          obtain ⟨_, _⟩ := hJ1
          go_simp
          exact hK (.int .i64 (q.size : Int)) _ hJ (Below.refl _ _) rfl
        refine Inv.from_cons _ _ _ _ rfl (fun _ a w hJ hF F K hK => ?_) ?_
        · have hz : a.tmps.size = 63 := hF.size
          have e30 : a.tmps[30]? = some (.int .i64 (q.size : Int)) := Inv2.some_slot (by rw [hz]; exact Nat.le_of_ble_eq_true rfl) (F 5 (by kernel_rfl) 30 rfl)
          clear F hF hz
          have hJ1 := hJ
          obtain ⟨_, _⟩ := hJ1
          go_simp
          exact hK (.int .u8 (IntKind.u8.wrap (q.size : Int))) _ hJ (Below.refl _ _) rfl
        refine Inv.from_cons _ _ _ _ rfl (fun _ a w hJ hF F K hK => ?_) ?_
        · have hz : a.tmps.size = 63 := hF.size
          have e31 : a.tmps[31]? = some (.int .u8 (IntKind.u8.wrap (q.size : Int))) := Inv2.some_slot (by rw [hz]; exact Nat.le_of_ble_eq_true rfl) (F 6 (by kernel_rfl) 31 rfl)
          clear F hF hz
          have hJ1 := hJ
          obtain ⟨_, _⟩ := hJ1
          go_simp
          exact hK _ _ ⟨bstep hJ.1 hJ.1.size (al _ _), hJ.2.later (al _ _)⟩ (al _ _) ⟨_, _, _, rfl, rfl, Nat.le_refl _, row_byte w q.size hq255⟩
        refine Inv.from_cons _ _ _ _ rfl (fun _ a w hJ hF F K hK => ?_) ?_
        · have hz : a.tmps.size = 63 := hF.size
          obtain ⟨x32, e32, f7⟩ : ∃ x, a.tmps[32]? = some x ∧ SlA (bv [UInt8.ofNat q.size]) x w := ⟨_, Inv2.some_slot (by rw [hz]; exact Nat.le_of_ble_eq_true rfl) rfl, F 7 (by kernel_rfl) 32 rfl⟩
          clear F hF hz
          have hJ1 := hJ
          obtain ⟨_, _⟩ := hJ1
          obtain ⟨A5, m5, c5, rfl, e5, _, hr5⟩ := f7
          have hcv := conv_row hr5 m5 c5 (by rw [e5]; rfl)
          clear e5 hr5
          go_simp
          exact hK _ _ hJ (Below.refl _ _) rfl
        refine Inv.from_cons _ _ _ _ rfl (fun _ a w hJ hF F K hK => ?_) ?_
        · have hz : a.tmps.size = 63 := hF.size
          have e1 : a.tmps[1]? = some (.pointer (some ⟨g, 0, none⟩)) := Inv2.some_slot (by rw [hz]; exact Nat.le_of_ble_eq_true rfl) (hF.slot 1 (by kernel_rfl))
          clear F hF hz
          have hJ1 := hJ
          obtain ⟨_, _⟩ := hJ1
          go_simp
          exact hK (.pointer (some ⟨g, 1, none⟩)) _ hJ (Below.refl _ _) rfl
        refine Inv.from_cons _ _ _ _ rfl (fun _ a w hJ hF F K hK => ?_) ?_
        · have hz : a.tmps.size = 63 := hF.size
          have e34 : a.tmps[34]? = some (.pointer (some ⟨g, 1, none⟩)) := Inv2.some_slot (by rw [hz]; exact Nat.le_of_ble_eq_true rfl) (F 9 (by kernel_rfl) 34 rfl)
          clear F hF hz
          have hJ1 := hJ
          obtain ⟨_, _⟩ := hJ1
          obtain ⟨_, d1, _⟩ := HX.out w hJ.1
          go_simp
          exact hK (.slice (some ad) n.keys.length h.kc) _ hJ (Below.refl _ _) rfl
        refine Inv.from_cons _ _ _ _ rfl (fun _ a w hJ hF F K hK => ?_) ?_
        · have hz : a.tmps.size = 63 := hF.size
          have e4 : a.tmps[4]? = some (.int .i64 (k : Int)) := Inv2.some_slot (by rw [hz]; exact Nat.le_of_ble_eq_true rfl) (hF.slot 4 (by kernel_rfl))
          clear F hF hz
          have hJ1 := hJ
          obtain ⟨_, _⟩ := hJ1
          go_simp
          exact hK (.int .i64 (k : Int)) _ hJ (Below.refl _ _) rfl
        refine Inv.from_cons _ _ _ _ rfl (fun _ a w hJ hF F K hK => ?_) ?_
        · have hz : a.tmps.size = 63 := hF.size
          have e35 : a.tmps[35]? = some (.slice (some ad) n.keys.length h.kc) := Inv2.some_slot (by rw [hz]; exact Nat.le_of_ble_eq_true rfl) (F 10 (by kernel_rfl) 35 rfl)
          have e36 : a.tmps[36]? = some (.int .i64 (k : Int)) := Inv2.some_slot (by rw [hz]; exact Nat.le_of_ble_eq_true rfl) (F 11 (by kernel_rfl) 36 rfl)
          clear F hF hz
          have hJ1 := hJ
          obtain ⟨_, _⟩ := hJ1
          go_simp
          exact hK (.pointer (some (ad.add k))) _ hJ (Below.refl _ _) rfl
        refine Inv.from_cons _ _ _ _ rfl (fun _ a w hJ hF F K hK => ?_) ?_
        · have hz : a.tmps.size = 63 := hF.size
          have e37 : a.tmps[37]? = some (.pointer (some (ad.add k))) := Inv2.some_slot (by rw [hz]; exact Nat.le_of_ble_eq_true rfl) (F 12 (by kernel_rfl) 37 rfl)
          clear F hF hz
          have hJ1 := hJ
          obtain ⟨_, _⟩ := hJ1
          have hcq := HQ.out w hJ.1
          go_simp
          exact hK (.string q) _ hJ (Below.refl _ _) rfl
        refine Inv.from_cons _ _ _ _ rfl (fun _ a w hJ hF F K hK => ?_) ?_
        · have hz : a.tmps.size = 63 := hF.size
          have e33 : a.tmps[33]? = some (.string ⟨#[UInt8.ofNat q.size]⟩) := Inv2.some_slot (by rw [hz]; exact Nat.le_of_ble_eq_true rfl) (F 8 (by kernel_rfl) 33 rfl)
          have e38 : a.tmps[38]? = some (.string q) := Inv2.some_slot (by rw [hz]; exact Nat.le_of_ble_eq_true rfl) (F 13 (by kernel_rfl) 38 rfl)
          clear F hF hz
          have hJ1 := hJ
          obtain ⟨_, _⟩ := hJ1
          have hcc1 : (9223372036854775807 < 1 + q.size) = False := by simp; omega
          go_simp
          exact hK _ _ hJ (Below.refl _ _) rfl
        refine Inv.from_skip _ _ _ _ rfl ?_
        exact Inv.from_end _ _ _ _ (by decide +kernel)
      · intro o ho a w hJ hF F K hK
        injection (show some _ = some o from ho) with ho
        subst ho
        obtain ⟨f, hf⟩ : ∃ f : Nat → Value, ∀ i, a.tmps.getD i undef = f i := ⟨_, fun _ => rfl⟩
        have g0 : f 0 = (.agg #[.bool false, .slice h.K n.keys.length h.kc, .slice h.V n.vals.length h.vc, .slice (some bd) n.kids.length h.dc]) := (hf 0).symm.trans (hF.slot 0 (by kernel_rfl))
        have g1 : f 1 = (.pointer (some ⟨g, 0, none⟩)) := (hf 1).symm.trans (hF.slot 1 (by kernel_rfl))
        have g2 : f 2 = (.slice none 0 0) := (hf 2).symm.trans (hF.slot 2 (by kernel_rfl))
        have g3 : f 3 = (.slice A (k + 1) c) := (hf 3).symm.trans (hF.slot 3 (by kernel_rfl))
        have g4 : f 4 = (.int .i64 (k : Int)) := (hf 4).symm.trans (hF.slot 4 (by kernel_rfl))
        have g6 : f 6 = (.slice (some ⟨g + 1, 0, none⟩) 0 0) := (hf 6).symm.trans (hF.slot 6 (by kernel_rfl))
        have g7 : f 7 = (.pointer (some ⟨g, 0, none⟩)) := (hf 7).symm.trans (hF.slot 7 (by kernel_rfl))
        have g8 : f 8 = (.bool false) := (hf 8).symm.trans (hF.slot 8 (by kernel_rfl))
        have g9 : f 9 = (.bool true) := (hf 9).symm.trans (hF.slot 9 (by kernel_rfl))
        have g10 : f 10 = (.slice (some ⟨g + 1, 0, none⟩) 0 0) := (hf 10).symm.trans (hF.slot 10 (by kernel_rfl))
        have g11 : f 11 = (.pointer (some ⟨g, 3, none⟩)) := (hf 11).symm.trans (hF.slot 11 (by kernel_rfl))
        have g12 : f 12 = (.slice (some bd) n.kids.length h.dc) := (hf 12).symm.trans (hF.slot 12 (by kernel_rfl))
        have g13 : f 13 = (.pointer (some bd)) := (hf 13).symm.trans (hF.slot 13 (by kernel_rfl))
        have g14 : f 14 = (.int .i64 (z0 : Int)) := (hf 14).symm.trans (hF.slot 14 (by kernel_rfl))
        have g15 : f 15 = (.string (four z0)) := (hf 15).symm.trans (hF.slot 15 (by kernel_rfl))
        have g16 : f 16 = (.slice (some ⟨w2.heap.size, 0, none⟩) 1 1) := (hf 16).symm.trans (hF.slot 16 (by kernel_rfl))
        have g17 : f 17 = (.slice A3 1 c3') := (hf 17).symm.trans (hF.slot 17 (by kernel_rfl))
        have g62 : f 62 = (undef) := (hf 62).symm.trans (hF.slot 62 (by kernel_rfl))
        have g25 : f 25 = (.pointer (some ⟨g, 1, none⟩)) := (hf 25).symm.trans (F 0 (by decide) 25 rfl)
        have g26 : f 26 = (.slice (some ad) n.keys.length h.kc) := (hf 26).symm.trans (F 1 (by decide) 26 rfl)
        have g27 : f 27 = (.int .i64 (k : Int)) := (hf 27).symm.trans (F 2 (by decide) 27 rfl)
        have g28 : f 28 = (.pointer (some (ad.add k))) := (hf 28).symm.trans (F 3 (by decide) 28 rfl)
        have g29 : f 29 = (.string q) := (hf 29).symm.trans (F 4 (by decide) 29 rfl)
        have g30 : f 30 = (.int .i64 (q.size : Int)) := (hf 30).symm.trans (F 5 (by decide) 30 rfl)
        have g31 : f 31 = (.int .u8 (IntKind.u8.wrap (q.size : Int))) := (hf 31).symm.trans (F 6 (by decide) 31 rfl)
        obtain ⟨x32, g32⟩ : ∃ x, f 32 = x := ⟨_, rfl⟩
        have f7 : SlA (bv [UInt8.ofNat q.size]) x32 w := by rw [← g32, ← hf 32]; exact F 7 (by decide) 32 rfl
        have g33 : f 33 = (.string ⟨#[UInt8.ofNat q.size]⟩) := (hf 33).symm.trans (F 8 (by decide) 33 rfl)
        have g34 : f 34 = (.pointer (some ⟨g, 1, none⟩)) := (hf 34).symm.trans (F 9 (by decide) 34 rfl)
        have g35 : f 35 = (.slice (some ad) n.keys.length h.kc) := (hf 35).symm.trans (F 10 (by decide) 35 rfl)
        have g36 : f 36 = (.int .i64 (k : Int)) := (hf 36).symm.trans (F 11 (by decide) 36 rfl)
        have g37 : f 37 = (.pointer (some (ad.add k))) := (hf 37).symm.trans (F 12 (by decide) 37 rfl)
        have g38 : f 38 = (.string q) := (hf 38).symm.trans (F 13 (by decide) 38 rfl)
        have g39 : f 39 = (.string ((⟨#[UInt8.ofNat q.size]⟩ : ByteArray) ++ q)) := (hf 39).symm.trans (F 14 (by decide) 39 rfl)
        have ha := Frames.frame (show a.tmps.size = 63 from hF.size) hF.defers hf (l := [f 0, f 1, f 2, f 3, f 4, f 5, f 6, f 7, f 8, f 9, f 10, f 11, f 12, f 13, f 14, f 15, f 16, f 17, f 18, f 19, f 20, f 21, f 22, f 23, f 24, f 25, f 26, f 27, f 28, f 29, f 30, f 31, f 32, f 33, f 34, f 35, f 36, f 37, f 38, f 39, f 40, f 41, f 42, f 43, f 44, f 45, f 46, f 47, f 48, f 49, f 50, f 51, f 52, f 53, f 54, f 55, f 56, f 57, f 58, f 59, f 60, f 61, f 62]) rfl
        simp only [g0, g1, g2, g3, g4, g6, g7, g8, g9, g10, g11, g12, g13, g14, g15, g16, g17, g62, g25, g26, g27, g28, g29, g30, g31, g32, g33, g34, g35, g36, g37, g38, g39] at ha
        clear F hF hf g0 g1 g2 g3 g4 g6 g7 g8 g9 g10 g11 g12 g13 g14 g15 g16 g17 g62 g25 g26 g27 g28 g29 g30 g31 g32 g33 g34 g35 g36 g37 g38 g39
        subst ha
        have hJ1 := hJ
        obtain ⟨_, _⟩ := hJ1
        have hbw := hJ.1
        have hOW := hJ.2
        go_simp
        refine hK _ _ ?_
        clear hK hJ
        obtain ⟨c0, _, _, c3⟩ := HX.out w hbw
        obtain ⟨bd', hDe, hbb, hcb⟩ := ints_get (HLY.out w hbw).d (k + 1) hlk
        rw [HDD.out] at hDe
        injection hDe with hDe
        subst hDe
        rw [HZ.out] at hcb
        have hfo := rfour_any w z (by omega)
        have i1 : (k : Int) + 1 < (n.kids.length : Int) := by omega
        have i3 : (0 : Int) ≤ (k : Int) + 1 := by omega
        have i4 : ((k : Int) + 1).toNat = k + 1 := by omega
        have hcb2 : w.cell? ⟨bd.block, bd.off + (k + 1), none⟩ = some (.int .i64 (z : Int)) := by rw [← hcb]; simp [Addr.add]
        go_wp2_with fail
        refine hfo.mono ?_
        rintro e w5 ⟨rfl, b5⟩
        have hbw5 := bstep hbw hbw.size b5
        have hOW5 := hOW.later b5
        clear hfo c0 c3 hcb hcb2 i1 i3 i4 hbw hOW
        have hrn : Row (w5.alloc (.cells #[.string ((⟨#[UInt8.ofNat q.size]⟩ : ByteArray) ++ q ++ four z)] 9)) (w5.alloc (.cells #[.string ((⟨#[UInt8.ofNat q.size]⟩ : ByteArray) ++ q ++ four z)] 9)).heap.size (some ⟨w5.heap.size, 0, none⟩) [.string (ent q (four z))] := row_one w5 _ _
        have hbs := hbw5.size
        obtain ⟨A9, c9', w9, hrun, hown', hg⟩ := run_append_row (P := Try.prog) 22 el_s (c2 := 1) (hOW5.alloc (.cells #[.string ((⟨#[UInt8.ofNat q.size]⟩ : ByteArray) ++ q ++ four z)] 9)) hrn (by simp [Value.oneCell']) (by rw [← HM.out]; simp [maxLen]; omega) (by rw [← HM.out]; simp; omega) (by simp; omega)
        rw [← HM.out, show ([Value.string (ent q (four z))] : List Value).length = 1 from rfl] at hrun
        have b8 : Below w1.heap.size w1 w9 := (hOW5.alloc _).below (bstep hbw5 hbs (al _ _)) hg (Nat.le_refl _) (by simp; omega)
        clear hg hrn
        go_wp2_with (at_builtin; refine NodeWant.wpList_append_run rfl (.tmp 58) (.tmp 60) 22 22 rfl rfl rfl hrun ?_)
        go_roundw
        case rel => exact ⟨k + 1, A9, c9', by omega, by go_num, by go_num, by rw [HT.out]; exact hown', b8⟩
        case measure => simp [intOf]; omega
      · intro hq; exact absurd hq (by decide +kernel)
    · obtain rfl : k = n.keys.length := by omega
      have hq9 : (((texts n).drop 1)).take n.keys.length = ((texts n).drop 1) := List.take_of_length_le (by rw [List.length_drop, texts, List.length_map]; have := HLB.out; omega)
      have HE := Lib.hid (show ((texts n).take 1) ++ ents (n.keys.take n.keys.length) (((texts n).drop 1).take n.keys.length) = cells n by rw [HCE.out, List.take_length, hq9])
      clear hq9
      rw [HE.out] at hown
      have HLN := Lib.hid (show n.keys.length + 1 = (strs (cells n)).length by rw [← HE.out, strs_len, List.length_append]; simp [ents, texts]; have := HLB.out; omega)
      go_wp2_with fail
      go_ret
      have e1 := HSZ.out
      have e2 := HG.out
      exact ⟨_, _, _, rfl, by rw [e2, ← e1]; exact own_slo hown _ HLN.out, by rw [e2]; exact bstep HB0.out (by omega) hb⟩
end Go.Proofs.Ytpcpfcllgadghaa.NodeRefCells
