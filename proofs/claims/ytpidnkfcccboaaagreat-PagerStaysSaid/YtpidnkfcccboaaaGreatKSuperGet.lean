/- The contract of super.Get: what a slot's bytes tell, an error or a super. -/
import Derived.Test.YtpidnkfcccboaaaGreatKPageRef
import Derived.Test.YtpidnkfcccboaaaGreatKSuperPut
namespace Go.Proofs.YtpidnkfcccboaaaGreat.SuperGet
open Go.RowKit Base SumPlain SumMem SumFill SumOf PagePlain PageSmall PageBytes PageLay PagePut PageCut PageTold2 PageAwake PageGet PageFour PageSame PageSame2 SuperPlain SuperRefCheck SuperSpec SuperCode SuperCellOf SuperTold SuperPageOf SuperPut

theorem gotE_err {l : List UInt8} {k : Int} (h : gotE l = .inl k) : k ≠ 0 := by
 unfold gotE at h
 split at h
 ·split at h
  ·split at h
   ·injection h with h; omega
   ·cases h
  ·injection h with h; omega
 ·injection h with h; omega
theorem told_len {p : Pg} {x : Sp} (h : toldS p = some x) : p.cells.length = 1 := by
 unfold toldS at h
 split at h
 ·rename_i q hq; rw [hq]; rfl
 ·cases h
theorem told_rd {p : Pg} {x : Sp} (h : toldS p = some x) : rdS p = some x := by
 unfold toldS at h
 split at h
 ·rename_i q hq
  split at h
  ·unfold rdS; rw [hq]; exact h
  ·cases h
 ·cases h
theorem told_none {p : Pg} (h : toldS p = none) {x : Sp} (s : Int) : ¬ Of x p s := by
 rintro ⟨_, _, _, _, _, hc, _⟩
 unfold toldS at h
 rw [hc] at h
 simp only at h
 rw [if_pos (cell_size x)] at h
 cases h
theorem getS_none {s : Int} {l : List UInt8} {p : Pg} (h : gotE l = .inr p) (ht : toldS p = none) : getS s l = .inl 70 := by
 unfold getS
 rw [h]
 simp only
 split
 ·rw [if_neg (told_none ht s)]
 ·rfl
theorem getS_told {s : Int} {l : List UInt8} {p : Pg} {x : Sp} (h : gotE l = .inr p) (ht : toldS p = some x) : getS s l = if Of x p s then .inr x else .inl 70 := by
 unfold getS
 rw [h]
 simp only [told_rd ht]
/-- the summer serves on (one sum further, at most), and nothing else has turned -/
def O2 (g : Nat) (n : Int) (W w' : World) : Prop := (∃ n', n ≤ n' ∧ n' ≤ n + 252 ∧ Ready w' g n') ∧ Only g W w'
theorem o2_below {g : Nat} {n : Int} {W w w' : World} (h : O2 g n W w) (hb : Below w.heap.size w w') : O2 g n W w' := by
 obtain ⟨⟨n', a, b, hr⟩, ho⟩ := h
 exact ⟨⟨n', a, b, Ready.below hr hb⟩, ho.trans (Only.ofBelow hb)⟩
theorem o2_set {g : Nat} {n : Int} {W w : World} (h : O2 g n W w) (p : Addr) (hp : W.heap.size ≤ p.block) (hg : g ≠ p.block) (u : Value) : O2 g n W (w.setCell p u) := by
 obtain ⟨⟨n', a, b, hr⟩, ho⟩ := h
 exact ⟨⟨n', a, b, ready_far hr p hg u⟩, only_set ho p hp u⟩
theorem o2_over {g b : Nat} {n : Int} {W w : World} (h : O2 g n W w) (hp : W.heap.size = b) (hg : b ≠ g) (x : Sp) : O2 g n W ((((w.setCell ⟨b, 0, none⟩ (.int .i64 x.ep)).setCell ⟨b, 1, none⟩ (.int .i64 x.root)).setCell ⟨b, 2, none⟩ (.int .i64 x.free)).setCell ⟨b, 3, none⟩ (.int .i64 x.pages)) :=
 o2_set (o2_set (o2_set (o2_set h _ (Nat.le_of_eq hp) hg.symm _) _ (Nat.le_of_eq hp) hg.symm _) _ (Nat.le_of_eq hp) hg.symm _) _ (Nat.le_of_eq hp) hg.symm _
/-- the memory of Get, from what told tells on -/
structure JG (W : World) (g : Nat) (n : Int) (bx bp bq : Nat) (p : Pg) (A : Option Addr) (c : Nat) (x : Sp) (w : World) : Prop where
 on : O2 g n W w
 z : Bs w bx zer
 pa : PgAt w bp p A c
 q : Bs w bq x
 r : Row w w.heap.size A (strs p.cells)
theorem JG.below {W w w' : World} {g : Nat} {n : Int} {bx bp bq c : Nat} {p : Pg} {A : Option Addr} {x : Sp} (h : JG W g n bx bp bq p A c x w) (hb : Below w.heap.size w w') : JG W g n bx bp bq p A c x w' :=
 ⟨o2_below h.on hb, h.z.below hb, at_below h.pa hb, h.q.below hb, h.r.belowSize hb⟩
set_option maxRecDepth 100000 in
set_option maxHeartbeats 12800000 in
theorem get_any (g : Nat) (n : Int) (W : World) (s : Int) (ad : Addr) (c : Nat) (l : List UInt8) (h : Ready W g n) (h0 : 0 ≤ n) (hn : n ≤ 890000000) (hr : RowX W g (some ad) (bv l)) (hl : l.length = 256) (hc : 256 ≤ c) :
  Calls Tryz.prog 96 #[.pointer (some ⟨g, 0, none⟩), .int .i64 s, .slice (some ad) 256 c] W fun e w' => e = .returned (ansOf (getS s l)) ∧ O2 g n W w' := by
 have hg := Ready.lt h
 obtain ⟨av, hav⟩ : ∃ v, v = ansOf (getS s l) := ⟨_, rfl⟩
 rw [← hav]
 have HA := Lib.hid hav
 clear hav
 obtain ⟨w1, hw1⟩ : ∃ v, v = W.alloc (.cells #[.int .i64 0, .int .i64 0, .int .i64 0, .int .i64 0] 29) := ⟨_, rfl⟩
 have b1 : Bs w1 W.heap.size zer := by rw [hw1]; exact bs_new W zer
 have hb1 : Below W.heap.size W w1 := by rw [hw1]; exact al _ _
 have o1 : Only g W w1 := Only.ofBelow hb1
 have hget := get_256 g n w1 ad 256 c l (Ready.below h hb1) h0 (by omega) (hr.below hb1) hl.symm hl (by omega)
 have hxg : W.heap.size ≠ g := by omega
 have HW := Lib.hid hw1
 clear hw1 h0 hr hl hc hg h hb1
 unfold GetPost at hget
 generalize hbx : W.heap.size = bx at b1 hxg ⊢
 have HX := Lib.hid hbx
 go_enter Tryz.func96, Tryz.ntmps96
 go_upto_region 1 with fail
 try rw [← HW.out]
 try rw [hbx]
 clear hbx
 go_wp2_with fail
 cases hge : gotE l with
 | inl k =>
  rw [hge] at hget
  simp only at hget
  have hk := gotE_err hge
  have hne : (k != 0) = true := by simpa using hk
  have HR := Lib.hid (getS_err (slot := s) hge)
  clear hk hge
  (with_reducible refine hget.mono ?_)
  clear hget
  rintro e w2 ⟨⟨n', hn1, hn2, hr2⟩, o2, rfl⟩
  have z2 := b1.only o2 hxg
  have on2 : O2 g n W w2 := ⟨⟨n', hn1, by omega, hr2⟩, o1.trans o2⟩
  clear b1 o1 o2 hn1 hn2 hr2 n' hn
  obtain ⟨w3, hw3⟩ : ∃ v, v = w2.alloc (.cells #[.int .i64 0, .int .i64 0, .int .i64 0, .int .i64 0, .slice none 0 0] 69) := ⟨_, rfl⟩
  have hb3 : Below w2.heap.size w2 w3 := by rw [hw3]; exact al _ _
  have jz := z2.below hb3
  have jon := o2_below on2 hb3
  have HW3 := Lib.hid hw3
  clear hw3 z2 on2 hb3
  obtain ⟨c0, c1, c2, c3⟩ := jz.cells
  have z0 := At.frozen jz 0
  have z1 := At.frozen jz 1
  have z2 := At.frozen jz 2
  have z3 := At.frozen jz 3
  go_upto_region 2 with fail
  try rw [← HW3.out]
  go_wp2_with fail
  refine bodyPost_ret (results_cell_tmp_row rfl _ _ bx 29 _ (0, 0) _ rfl (bs_over jz zer) Tryz.underlying29 rfl (by kernel_rfl)) rfl ?_
  exact ⟨by rw [HA.out, HR.out]; rfl, o2_over jon HX.out hxg zer⟩
 | inr p =>
  rw [hge] at hget
  simp only at hget
  have HGE := Lib.hid hge
  clear hge
  (with_reducible refine hget.mono ?_)
  clear hget
  rintro e w2 ⟨⟨n', hn1, hn2, hr2⟩, o2, A, c', rfl, own2⟩
  have z2 := b1.only o2 hxg
  have on2 : O2 g n W w2 := ⟨⟨n', hn1, by omega, hr2⟩, o1.trans o2⟩
  have row2 := own2.row
  clear b1 o1 o2 hn1 hn2 hr2 n' hn own2
  obtain ⟨w3, hw3⟩ : ∃ v, v = w2.alloc (.cells #[.int .i64 p.kind, .int .i64 p.no, .int .i64 p.epoch, .int .i64 p.link, .slice A p.cells.length c'] 69) := ⟨_, rfl⟩
  have hb3 : Below w2.heap.size w2 w3 := by rw [hw3]; exact al _ _
  have p3 : PgAt w3 w2.heap.size p A c' := by rw [hw3]; exact heap_alloc_new w2 _
  have z3 := z2.below hb3
  have on3 := o2_below on2 hb3
  have row3 : Row w3 w3.heap.size A (strs p.cells) := row2.belowSize hb3
  have HW3 := Lib.hid hw3
  clear hw3 z2 on2 hb3 row2
  generalize hbp : w2.heap.size = bp at p3 ⊢
  have htold := told_any w3 p A c' row3
  obtain ⟨d0, d1, d2, d3, d4⟩ := five p3
  go_upto_region 2 with fail
  try rw [← HW3.out]
  try rw [hbp]
  clear hbp
  go_wp2_with fail
  (with_reducible refine htold.mono ?_)
  clear htold d0 d1 d2 d3 d4
  rintro e w4 ⟨rfl, hb4⟩
  cases ht : toldS p with
  | none =>
   have HR := Lib.hid (getS_none (s := s) HGE.out ht)
   clear ht
   unfold oS
   have j4 : Bs w4 bx zer ∧ PgAt w4 bp p A c' ∧ O2 g n W w4 ∧ Row w4 w4.heap.size A (strs p.cells) := ⟨z3.below hb4, at_below p3 hb4, o2_below on3 hb4, row3.belowSize hb4⟩
   obtain ⟨z4, p4, on4, row4⟩ := j4
   clear z3 p3 on3 row3 hb4
   obtain ⟨w5, hw5⟩ : ∃ v, v = w4.alloc (.cells #[.int .i64 zer.ep, .int .i64 zer.root, .int .i64 zer.free, .int .i64 zer.pages] 29) := ⟨_, rfl⟩
   have hb5 : Below w4.heap.size w4 w5 := by rw [hw5]; exact al _ _
   have j5 : JG W g n bx bp w4.heap.size p A c' zer w5 := ⟨o2_below on4 hb5, z4.below hb5, at_below p4 hb5, by rw [hw5]; exact bs_new w4 zer, row4.belowSize hb5⟩
   have HW5 := Lib.hid hw5
   clear hw5 z4 p4 on4 row4 hb5
   generalize hbq : w4.heap.size = bq at j5 ⊢
   go_upto_region 5 with fail
   try rw [← HW5.out]
   try rw [hbq]
   clear hbq
   have hJ0 := j5.below (Below.refl _ _).drew
   clear j5
   refine wp_region_any (by kernel_rfl) ?_
   change wpAny _ _ _ _ _ _ _ (World.drew _)
   refine Inv.inv_any (fun (i : Nat) (v : Value) (w : World) => match i with | 0 => v = .bool false | 1 => v = .bool true | 2 => v = .bool true | 6 => v = .bool true | 7 => v = .bool true | 12 => v = .bool true | 13 => v = .bool true | 19 => v = .bool true | _ => True) (fun w' : World => JG W g n bx bp bq p A c' zer w') _ 20 49 rfl rfl rfl (by kernel_rfl) (by kernel_rfl) hJ0 ?_ ?_ ?_ ?_
   ·intro j v w w' h hb
    match j, h with
    | 0, h => exact h
    | 1, h => exact h
    | 2, h => exact h
    | 6, h => exact h
    | 7, h => exact h
    | 12, h => exact h
    | 13, h => exact h
    | 19, h => exact h
    | 3, _ => exact trivial
    | 4, _ => exact trivial
    | 5, _ => exact trivial
    | 8, _ => exact trivial
    | 9, _ => exact trivial
    | 10, _ => exact trivial
    | 11, _ => exact trivial
    | 14, _ => exact trivial
    | 15, _ => exact trivial
    | 16, _ => exact trivial
    | 17, _ => exact trivial
    | 18, _ => exact trivial
    | (_ + 20), _ => exact trivial
   ·skip
    refine Inv.from_cons _ _ _ _ rfl (fun _ a w hJ hF F K hK => ?_) ?_
    ·have hz : a.tmps.size = 49 := hF.size
     have e11 : a.tmps[11]? = some (.bool false) := Inv2.some_slot (by rw [hz]; exact Nat.le_of_ble_eq_true rfl) (hF.slot 11 (by kernel_rfl))
     clear F hF hz
     have hJ1 := hJ
     obtain ⟨jon, jz, jp, jq, jr⟩ := hJ1
     go_simp
     exact hK (.bool false) _ hJ (Below.refl _ _) rfl
    refine Inv.from_cons _ _ _ _ rfl (fun _ a w hJ hF F K hK => ?_) ?_
    ·have hz : a.tmps.size = 49 := hF.size
     have e27 : a.tmps[27]? = some (.bool false) := Inv2.some_slot (by rw [hz]; exact Nat.le_of_ble_eq_true rfl) (F 0 (by kernel_rfl) 27 rfl)
     clear F hF hz
     have hJ1 := hJ
     obtain ⟨jon, jz, jp, jq, jr⟩ := hJ1
     go_simp
     exact hK (.bool true) _ hJ (Below.refl _ _) rfl
    refine Inv.from_cons _ _ _ _ rfl (fun _ a w hJ hF F K hK => ?_) ?_
    ·have hz : a.tmps.size = 49 := hF.size
     have e28 : a.tmps[28]? = some (.bool true) := Inv2.some_slot (by rw [hz]; exact Nat.le_of_ble_eq_true rfl) (F 1 (by kernel_rfl) 28 rfl)
     clear F hF hz
     have hJ1 := hJ
     obtain ⟨jon, jz, jp, jq, jr⟩ := hJ1
     go_simp
     exact hK (.bool true) _ hJ (Below.refl _ _) rfl
    refine Inv.from_cons _ _ _ _ rfl (fun _ a w hJ hF F K hK => ?_) ?_
    ·have hz : a.tmps.size = 49 := hF.size
     have e10 : a.tmps[10]? = some (.pointer (some ⟨bq, 0, none⟩)) := Inv2.some_slot (by rw [hz]; exact Nat.le_of_ble_eq_true rfl) (hF.slot 10 (by kernel_rfl))
     have e29 : a.tmps[29]? = some (.bool true) := Inv2.some_slot (by rw [hz]; exact Nat.le_of_ble_eq_true rfl) (F 2 (by kernel_rfl) 29 rfl)
     clear F hF hz
     have hJ1 := hJ
     obtain ⟨jon, jz, jp, jq, jr⟩ := hJ1
     go_simp
     exact hK _ _ hJ (Below.refl _ _) trivial
    refine Inv.from_cons _ _ _ _ rfl (fun _ a w hJ hF F K hK => ?_) ?_
    ·have hz : a.tmps.size = 49 := hF.size
     have e29 : a.tmps[29]? = some (.bool true) := Inv2.some_slot (by rw [hz]; exact Nat.le_of_ble_eq_true rfl) (F 2 (by kernel_rfl) 29 rfl)
     clear F hF hz
     have hJ1 := hJ
     obtain ⟨jon, jz, jp, jq, jr⟩ := hJ1
     go_simp
     exact hK _ _ hJ (Below.refl _ _) trivial
    refine Inv.from_cons _ _ _ _ rfl (fun _ a w hJ hF F K hK => ?_) ?_
    ·have hz : a.tmps.size = 49 := hF.size
     have e29 : a.tmps[29]? = some (.bool true) := Inv2.some_slot (by rw [hz]; exact Nat.le_of_ble_eq_true rfl) (F 2 (by kernel_rfl) 29 rfl)
     clear F hF hz
     have hJ1 := hJ
     obtain ⟨jon, jz, jp, jq, jr⟩ := hJ1
     go_simp
     exact hK _ _ hJ (Below.refl _ _) trivial
    refine Inv.from_cons _ _ _ _ rfl (fun _ a w hJ hF F K hK => ?_) ?_
    ·have hz : a.tmps.size = 49 := hF.size
     have e29 : a.tmps[29]? = some (.bool true) := Inv2.some_slot (by rw [hz]; exact Nat.le_of_ble_eq_true rfl) (F 2 (by kernel_rfl) 29 rfl)
     clear F hF hz
     have hJ1 := hJ
     obtain ⟨jon, jz, jp, jq, jr⟩ := hJ1
     go_simp
     exact hK (.bool true) _ hJ (Below.refl _ _) rfl
    refine Inv.from_cons _ _ _ _ rfl (fun _ a w hJ hF F K hK => ?_) ?_
    ·have hz : a.tmps.size = 49 := hF.size
     have e33 : a.tmps[33]? = some (.bool true) := Inv2.some_slot (by rw [hz]; exact Nat.le_of_ble_eq_true rfl) (F 6 (by kernel_rfl) 33 rfl)
     clear F hF hz
     have hJ1 := hJ
     obtain ⟨jon, jz, jp, jq, jr⟩ := hJ1
     go_simp
     exact hK (.bool true) _ hJ (Below.refl _ _) rfl
    refine Inv.from_cons _ _ _ _ rfl (fun _ a w hJ hF F K hK => ?_) ?_
    ·have hz : a.tmps.size = 49 := hF.size
     have e10 : a.tmps[10]? = some (.pointer (some ⟨bq, 0, none⟩)) := Inv2.some_slot (by rw [hz]; exact Nat.le_of_ble_eq_true rfl) (hF.slot 10 (by kernel_rfl))
     have e34 : a.tmps[34]? = some (.bool true) := Inv2.some_slot (by rw [hz]; exact Nat.le_of_ble_eq_true rfl) (F 7 (by kernel_rfl) 34 rfl)
     clear F hF hz
     have hJ1 := hJ
     obtain ⟨jon, jz, jp, jq, jr⟩ := hJ1
     go_simp
     exact hK _ _ hJ (Below.refl _ _) trivial
    refine Inv.from_cons _ _ _ _ rfl (fun _ a w hJ hF F K hK => ?_) ?_
    ·have hz : a.tmps.size = 49 := hF.size
     have e34 : a.tmps[34]? = some (.bool true) := Inv2.some_slot (by rw [hz]; exact Nat.le_of_ble_eq_true rfl) (F 7 (by kernel_rfl) 34 rfl)
     clear F hF hz
     have hJ1 := hJ
     obtain ⟨jon, jz, jp, jq, jr⟩ := hJ1
     go_simp
     exact hK _ _ hJ (Below.refl _ _) trivial
    refine Inv.from_cons _ _ _ _ rfl (fun _ a w hJ hF F K hK => ?_) ?_
    ·have hz : a.tmps.size = 49 := hF.size
     have e34 : a.tmps[34]? = some (.bool true) := Inv2.some_slot (by rw [hz]; exact Nat.le_of_ble_eq_true rfl) (F 7 (by kernel_rfl) 34 rfl)
     clear F hF hz
     have hJ1 := hJ
     obtain ⟨jon, jz, jp, jq, jr⟩ := hJ1
     go_simp
     exact hK _ _ hJ (Below.refl _ _) trivial
    refine Inv.from_cons _ _ _ _ rfl (fun _ a w hJ hF F K hK => ?_) ?_
    ·have hz : a.tmps.size = 49 := hF.size
     have e34 : a.tmps[34]? = some (.bool true) := Inv2.some_slot (by rw [hz]; exact Nat.le_of_ble_eq_true rfl) (F 7 (by kernel_rfl) 34 rfl)
     clear F hF hz
     have hJ1 := hJ
     obtain ⟨jon, jz, jp, jq, jr⟩ := hJ1
     go_simp
     exact hK _ _ hJ (Below.refl _ _) trivial
    refine Inv.from_cons _ _ _ _ rfl (fun _ a w hJ hF F K hK => ?_) ?_
    ·have hz : a.tmps.size = 49 := hF.size
     have e34 : a.tmps[34]? = some (.bool true) := Inv2.some_slot (by rw [hz]; exact Nat.le_of_ble_eq_true rfl) (F 7 (by kernel_rfl) 34 rfl)
     clear F hF hz
     have hJ1 := hJ
     obtain ⟨jon, jz, jp, jq, jr⟩ := hJ1
     go_simp
     exact hK (.bool true) _ hJ (Below.refl _ _) rfl
    refine Inv.from_cons _ _ _ _ rfl (fun _ a w hJ hF F K hK => ?_) ?_
    ·have hz : a.tmps.size = 49 := hF.size
     have e39 : a.tmps[39]? = some (.bool true) := Inv2.some_slot (by rw [hz]; exact Nat.le_of_ble_eq_true rfl) (F 12 (by kernel_rfl) 39 rfl)
     clear F hF hz
     have hJ1 := hJ
     obtain ⟨jon, jz, jp, jq, jr⟩ := hJ1
     go_simp
     exact hK (.bool true) _ hJ (Below.refl _ _) rfl
    refine Inv.from_cons _ _ _ _ rfl (fun _ a w hJ hF F K hK => ?_) ?_
    ·have hz : a.tmps.size = 49 := hF.size
     have e8 : a.tmps[8]? = some (.pointer (some ⟨bp, 0, none⟩)) := Inv2.some_slot (by rw [hz]; exact Nat.le_of_ble_eq_true rfl) (hF.slot 8 (by kernel_rfl))
     have e40 : a.tmps[40]? = some (.bool true) := Inv2.some_slot (by rw [hz]; exact Nat.le_of_ble_eq_true rfl) (F 13 (by kernel_rfl) 40 rfl)
     clear F hF hz
     have hJ1 := hJ
     obtain ⟨jon, jz, jp, jq, jr⟩ := hJ1
     go_simp
     exact hK _ _ hJ (Below.refl _ _) trivial
    refine Inv.from_cons _ _ _ _ rfl (fun _ a w hJ hF F K hK => ?_) ?_
    ·have hz : a.tmps.size = 49 := hF.size
     have e10 : a.tmps[10]? = some (.pointer (some ⟨bq, 0, none⟩)) := Inv2.some_slot (by rw [hz]; exact Nat.le_of_ble_eq_true rfl) (hF.slot 10 (by kernel_rfl))
     have e40 : a.tmps[40]? = some (.bool true) := Inv2.some_slot (by rw [hz]; exact Nat.le_of_ble_eq_true rfl) (F 13 (by kernel_rfl) 40 rfl)
     clear F hF hz
     have hJ1 := hJ
     obtain ⟨jon, jz, jp, jq, jr⟩ := hJ1
     go_simp
     exact hK _ _ hJ (Below.refl _ _) trivial
    refine Inv.from_cons _ _ _ _ rfl (fun _ a w hJ hF F K hK => ?_) ?_
    ·have hz : a.tmps.size = 49 := hF.size
     have e40 : a.tmps[40]? = some (.bool true) := Inv2.some_slot (by rw [hz]; exact Nat.le_of_ble_eq_true rfl) (F 13 (by kernel_rfl) 40 rfl)
     clear F hF hz
     have hJ1 := hJ
     obtain ⟨jon, jz, jp, jq, jr⟩ := hJ1
     go_simp
     exact hK _ _ hJ (Below.refl _ _) trivial
    refine Inv.from_cons _ _ _ _ rfl (fun _ a w hJ hF F K hK => ?_) ?_
    ·have hz : a.tmps.size = 49 := hF.size
     have e40 : a.tmps[40]? = some (.bool true) := Inv2.some_slot (by rw [hz]; exact Nat.le_of_ble_eq_true rfl) (F 13 (by kernel_rfl) 40 rfl)
     clear F hF hz
     have hJ1 := hJ
     obtain ⟨jon, jz, jp, jq, jr⟩ := hJ1
     go_simp
     exact hK _ _ hJ (Below.refl _ _) trivial
    refine Inv.from_cons _ _ _ _ rfl (fun _ a w hJ hF F K hK => ?_) ?_
    ·have hz : a.tmps.size = 49 := hF.size
     have e40 : a.tmps[40]? = some (.bool true) := Inv2.some_slot (by rw [hz]; exact Nat.le_of_ble_eq_true rfl) (F 13 (by kernel_rfl) 40 rfl)
     clear F hF hz
     have hJ1 := hJ
     obtain ⟨jon, jz, jp, jq, jr⟩ := hJ1
     go_simp
     exact hK _ _ hJ (Below.refl _ _) trivial
    refine Inv.from_cons _ _ _ _ rfl (fun _ a w hJ hF F K hK => ?_) ?_
    ·have hz : a.tmps.size = 49 := hF.size
     have e40 : a.tmps[40]? = some (.bool true) := Inv2.some_slot (by rw [hz]; exact Nat.le_of_ble_eq_true rfl) (F 13 (by kernel_rfl) 40 rfl)
     clear F hF hz
     have hJ1 := hJ
     obtain ⟨jon, jz, jp, jq, jr⟩ := hJ1
     go_simp
     exact hK (.bool true) _ hJ (Below.refl _ _) rfl
    exact Inv.from_end _ _ _ _ (by decide +kernel)
   ·intro o ho; exact absurd ho (by simp)
   ·intro _ a w hJ hF F
    obtain ⟨f, hf⟩ : ∃ f : Nat → Value, ∀ i, a.tmps.getD i undef = f i := ⟨_, fun _ => rfl⟩
    have g6 : f 6 = (.pointer (some ⟨bx, 0, none⟩)) := (hf 6).symm.trans (hF.slot 6 (by kernel_rfl))
    have g7 : f 7 = (.int .i64 0) := (hf 7).symm.trans (hF.slot 7 (by kernel_rfl))
    have g8 : f 8 = (.pointer (some ⟨bp, 0, none⟩)) := (hf 8).symm.trans (hF.slot 8 (by kernel_rfl))
    have g10 : f 10 = (.pointer (some ⟨bq, 0, none⟩)) := (hf 10).symm.trans (hF.slot 10 (by kernel_rfl))
    have g11 : f 11 = (.bool false) := (hf 11).symm.trans (hF.slot 11 (by kernel_rfl))
    have g27 : f 27 = (.bool false) := (hf 27).symm.trans (F 0 27 rfl)
    have g28 : f 28 = (.bool true) := (hf 28).symm.trans (F 1 28 rfl)
    have g29 : f 29 = (.bool true) := (hf 29).symm.trans (F 2 29 rfl)
    have g33 : f 33 = (.bool true) := (hf 33).symm.trans (F 6 33 rfl)
    have g34 : f 34 = (.bool true) := (hf 34).symm.trans (F 7 34 rfl)
    have g39 : f 39 = (.bool true) := (hf 39).symm.trans (F 12 39 rfl)
    have g40 : f 40 = (.bool true) := (hf 40).symm.trans (F 13 40 rfl)
    have g46 : f 46 = (.bool true) := (hf 46).symm.trans (F 19 46 rfl)
    have ha := Frames.frame (show a.tmps.size = 49 from hF.size) hF.defers hf (l := [f 0, f 1, f 2, f 3, f 4, f 5, f 6, f 7, f 8, f 9, f 10, f 11, f 12, f 13, f 14, f 15, f 16, f 17, f 18, f 19, f 20, f 21, f 22, f 23, f 24, f 25, f 26, f 27, f 28, f 29, f 30, f 31, f 32, f 33, f 34, f 35, f 36, f 37, f 38, f 39, f 40, f 41, f 42, f 43, f 44, f 45, f 46, f 47, f 48]) rfl
    simp only [g6, g7, g8, g10, g11, g27, g28, g29, g33, g34, g39, g40, g46] at ha
    clear F hF hf g6 g7 g8 g10 g11 g27 g28 g29 g33 g34 g39 g40 g46
    subst ha
    have hJ1 := hJ
    obtain ⟨jon, jz, jp, jq, jr⟩ := hJ1
    clear hJ
    obtain ⟨c0, c1, c2, c3⟩ := jz.cells
    have z0 := At.frozen jz 0
    have z1 := At.frozen jz 1
    have z2 := At.frozen jz 2
    have z3 := At.frozen jz 3
    clear jp jr jq
    go_wp2_with fail
    refine bodyPost_ret (results_cell_tmp_row rfl _ _ bx 29 _ (0, 0) _ rfl (bs_over jz zer) Tryz.underlying29 rfl (by kernel_rfl)) rfl ?_
    exact ⟨by rw [HA.out, HR.out]; rfl, o2_over jon HX.out hxg zer⟩
  | some x =>
   have hgt := getS_told (s := s) HGE.out ht
   unfold oS
   have j4 : Bs w4 bx zer ∧ PgAt w4 bp p A c' ∧ O2 g n W w4 ∧ Row w4 w4.heap.size A (strs p.cells) := ⟨z3.below hb4, at_below p3 hb4, o2_below on3 hb4, row3.belowSize hb4⟩
   obtain ⟨z4, p4, on4, row4⟩ := j4
   clear z3 p3 on3 row3 hb4
   obtain ⟨w5, hw5⟩ : ∃ v, v = w4.alloc (.cells #[.int .i64 x.ep, .int .i64 x.root, .int .i64 x.free, .int .i64 x.pages] 29) := ⟨_, rfl⟩
   have hb5 : Below w4.heap.size w4 w5 := by rw [hw5]; exact al _ _
   have j5 : JG W g n bx bp w4.heap.size p A c' x w5 := ⟨o2_below on4 hb5, z4.below hb5, at_below p4 hb5, by rw [hw5]; exact bs_new w4 x, row4.belowSize hb5⟩
   have HW5 := Lib.hid hw5
   have HT := Lib.hid ht
   clear hw5 z4 p4 on4 row4 hb5 ht
   generalize hbq : w4.heap.size = bq at j5 ⊢
   go_upto_region 5 with fail
   try rw [← HW5.out]
   try rw [hbq]
   clear hbq
   have hJ0 := j5.below (Below.refl _ _).drew
   clear j5
   by_cases hok : Ok x
   rotate_left
   ·have HR := Lib.hid (hgt.trans (if_neg fun z => hok (of_iff.1 z).1))
    have HC := Lib.hid (decide_eq_false hok)
    clear hgt hok
    refine wp_region_any (by kernel_rfl) ?_
    change wpAny _ _ _ _ _ _ _ (World.drew _)
    refine Inv.inv_any (fun (i : Nat) (v : Value) (w : World) => match i with | 0 => v = .bool true | 1 => v = .bool false | 2 => v = .bool false | 3 => v = .agg #[.int .i64 x.ep, .int .i64 x.root, .int .i64 x.free, .int .i64 x.pages] | 4 => v = .bool false | 5 => v = .bool true | 6 => v = .bool true | 7 => v = .bool true | 12 => v = .bool true | 13 => v = .bool true | 19 => v = .bool true | _ => True) (fun w' : World => JG W g n bx bp bq p A c' x w') _ 20 49 rfl rfl rfl (by kernel_rfl) (by kernel_rfl) hJ0 ?_ ?_ ?_ ?_
    ·intro j v w w' h hb
     match j, h with
     | 0, h => exact h
     | 1, h => exact h
     | 2, h => exact h
     | 3, h => exact h
     | 4, h => exact h
     | 5, h => exact h
     | 6, h => exact h
     | 7, h => exact h
     | 12, h => exact h
     | 13, h => exact h
     | 19, h => exact h
     | 8, _ => exact trivial
     | 9, _ => exact trivial
     | 10, _ => exact trivial
     | 11, _ => exact trivial
     | 14, _ => exact trivial
     | 15, _ => exact trivial
     | 16, _ => exact trivial
     | 17, _ => exact trivial
     | 18, _ => exact trivial
     | (_ + 20), _ => exact trivial
    ·skip
     refine Inv.from_cons _ _ _ _ rfl (fun _ a w hJ hF F K hK => ?_) ?_
     ·have hz : a.tmps.size = 49 := hF.size
      have e11 : a.tmps[11]? = some (.bool true) := Inv2.some_slot (by rw [hz]; exact Nat.le_of_ble_eq_true rfl) (hF.slot 11 (by kernel_rfl))
      clear F hF hz
      have hJ1 := hJ
      obtain ⟨jon, jz, jp, jq, jr⟩ := hJ1
      go_simp
      exact hK (.bool true) _ hJ (Below.refl _ _) rfl
     refine Inv.from_cons _ _ _ _ rfl (fun _ a w hJ hF F K hK => ?_) ?_
     ·have hz : a.tmps.size = 49 := hF.size
      have e27 : a.tmps[27]? = some (.bool true) := Inv2.some_slot (by rw [hz]; exact Nat.le_of_ble_eq_true rfl) (F 0 (by kernel_rfl) 27 rfl)
      clear F hF hz
      have hJ1 := hJ
      obtain ⟨jon, jz, jp, jq, jr⟩ := hJ1
      go_simp
      exact hK (.bool false) _ hJ (Below.refl _ _) rfl
     refine Inv.from_cons _ _ _ _ rfl (fun _ a w hJ hF F K hK => ?_) ?_
     ·have hz : a.tmps.size = 49 := hF.size
      have e28 : a.tmps[28]? = some (.bool false) := Inv2.some_slot (by rw [hz]; exact Nat.le_of_ble_eq_true rfl) (F 1 (by kernel_rfl) 28 rfl)
      clear F hF hz
      have hJ1 := hJ
      obtain ⟨jon, jz, jp, jq, jr⟩ := hJ1
      go_simp
      exact hK (.bool false) _ hJ (Below.refl _ _) rfl
     refine Inv.from_cons _ _ _ _ rfl (fun _ a w hJ hF F K hK => ?_) ?_
     ·have hz : a.tmps.size = 49 := hF.size
      have e10 : a.tmps[10]? = some (.pointer (some ⟨bq, 0, none⟩)) := Inv2.some_slot (by rw [hz]; exact Nat.le_of_ble_eq_true rfl) (hF.slot 10 (by kernel_rfl))
      have e29 : a.tmps[29]? = some (.bool false) := Inv2.some_slot (by rw [hz]; exact Nat.le_of_ble_eq_true rfl) (F 2 (by kernel_rfl) 29 rfl)
      clear F hF hz
      have hJ1 := hJ
      obtain ⟨jon, jz, jp, jq, jr⟩ := hJ1
      obtain ⟨d0, d1, d2, d3⟩ := jq.cells
      go_simp
      exact hK (.agg #[.int .i64 x.ep, .int .i64 x.root, .int .i64 x.free, .int .i64 x.pages]) _ hJ (Below.refl _ _) rfl
     refine Inv.from_cons _ _ _ _ rfl (fun _ a w hJ hF F K hK => ?_) ?_
     ·have hz : a.tmps.size = 49 := hF.size
      have e29 : a.tmps[29]? = some (.bool false) := Inv2.some_slot (by rw [hz]; exact Nat.le_of_ble_eq_true rfl) (F 2 (by kernel_rfl) 29 rfl)
      have e30 : a.tmps[30]? = some (.agg #[.int .i64 x.ep, .int .i64 x.root, .int .i64 x.free, .int .i64 x.pages]) := Inv2.some_slot (by rw [hz]; exact Nat.le_of_ble_eq_true rfl) (F 3 (by kernel_rfl) 30 rfl)
      clear F hF hz
      have hJ1 := hJ
      obtain ⟨jon, jz, jp, jq, jr⟩ := hJ1
      have hh := check_any w x
      rw [HC.out] at hh
      go_simp
      (with_reducible refine hh.mono ?_)
      rintro e' w' ⟨rfl, hb⟩
      go_simp
      exact hK _ _ (hJ.below hb) hb rfl
     refine Inv.from_cons _ _ _ _ rfl (fun _ a w hJ hF F K hK => ?_) ?_
     ·have hz : a.tmps.size = 49 := hF.size
      have e29 : a.tmps[29]? = some (.bool false) := Inv2.some_slot (by rw [hz]; exact Nat.le_of_ble_eq_true rfl) (F 2 (by kernel_rfl) 29 rfl)
      have e31 : a.tmps[31]? = some (.bool false) := Inv2.some_slot (by rw [hz]; exact Nat.le_of_ble_eq_true rfl) (F 4 (by kernel_rfl) 31 rfl)
      clear F hF hz
      have hJ1 := hJ
      obtain ⟨jon, jz, jp, jq, jr⟩ := hJ1
      go_simp
      exact hK (.bool true) _ hJ (Below.refl _ _) rfl
     refine Inv.from_cons _ _ _ _ rfl (fun _ a w hJ hF F K hK => ?_) ?_
     ·have hz : a.tmps.size = 49 := hF.size
      have e29 : a.tmps[29]? = some (.bool false) := Inv2.some_slot (by rw [hz]; exact Nat.le_of_ble_eq_true rfl) (F 2 (by kernel_rfl) 29 rfl)
      have e32 : a.tmps[32]? = some (.bool true) := Inv2.some_slot (by rw [hz]; exact Nat.le_of_ble_eq_true rfl) (F 5 (by kernel_rfl) 32 rfl)
      clear F hF hz
      have hJ1 := hJ
      obtain ⟨jon, jz, jp, jq, jr⟩ := hJ1
      go_simp
      exact hK (.bool true) _ hJ (Below.refl _ _) rfl
     refine Inv.from_cons _ _ _ _ rfl (fun _ a w hJ hF F K hK => ?_) ?_
     ·have hz : a.tmps.size = 49 := hF.size
      have e31 : a.tmps[31]? = some (.bool false) := Inv2.some_slot (by rw [hz]; exact Nat.le_of_ble_eq_true rfl) (F 4 (by kernel_rfl) 31 rfl)
      have e33 : a.tmps[33]? = some (.bool true) := Inv2.some_slot (by rw [hz]; exact Nat.le_of_ble_eq_true rfl) (F 6 (by kernel_rfl) 33 rfl)
      clear F hF hz
      have hJ1 := hJ
      obtain ⟨jon, jz, jp, jq, jr⟩ := hJ1
      go_simp
      exact hK (.bool true) _ hJ (Below.refl _ _) rfl
     refine Inv.from_cons _ _ _ _ rfl (fun _ a w hJ hF F K hK => ?_) ?_
     ·have hz : a.tmps.size = 49 := hF.size
      have e10 : a.tmps[10]? = some (.pointer (some ⟨bq, 0, none⟩)) := Inv2.some_slot (by rw [hz]; exact Nat.le_of_ble_eq_true rfl) (hF.slot 10 (by kernel_rfl))
      have e34 : a.tmps[34]? = some (.bool true) := Inv2.some_slot (by rw [hz]; exact Nat.le_of_ble_eq_true rfl) (F 7 (by kernel_rfl) 34 rfl)
      clear F hF hz
      have hJ1 := hJ
      obtain ⟨jon, jz, jp, jq, jr⟩ := hJ1
      go_simp
      exact hK _ _ hJ (Below.refl _ _) trivial
     refine Inv.from_cons _ _ _ _ rfl (fun _ a w hJ hF F K hK => ?_) ?_
     ·have hz : a.tmps.size = 49 := hF.size
      have e34 : a.tmps[34]? = some (.bool true) := Inv2.some_slot (by rw [hz]; exact Nat.le_of_ble_eq_true rfl) (F 7 (by kernel_rfl) 34 rfl)
      clear F hF hz
      have hJ1 := hJ
      obtain ⟨jon, jz, jp, jq, jr⟩ := hJ1
      go_simp
      exact hK _ _ hJ (Below.refl _ _) trivial
     refine Inv.from_cons _ _ _ _ rfl (fun _ a w hJ hF F K hK => ?_) ?_
     ·have hz : a.tmps.size = 49 := hF.size
      have e1 : a.tmps[1]? = some (.int .i64 s) := Inv2.some_slot (by rw [hz]; exact Nat.le_of_ble_eq_true rfl) (hF.slot 1 (by kernel_rfl))
      have e34 : a.tmps[34]? = some (.bool true) := Inv2.some_slot (by rw [hz]; exact Nat.le_of_ble_eq_true rfl) (F 7 (by kernel_rfl) 34 rfl)
      clear F hF hz
      have hJ1 := hJ
      obtain ⟨jon, jz, jp, jq, jr⟩ := hJ1
      go_simp
      exact hK _ _ hJ (Below.refl _ _) trivial
     refine Inv.from_cons _ _ _ _ rfl (fun _ a w hJ hF F K hK => ?_) ?_
     ·have hz : a.tmps.size = 49 := hF.size
      have e34 : a.tmps[34]? = some (.bool true) := Inv2.some_slot (by rw [hz]; exact Nat.le_of_ble_eq_true rfl) (F 7 (by kernel_rfl) 34 rfl)
      clear F hF hz
      have hJ1 := hJ
      obtain ⟨jon, jz, jp, jq, jr⟩ := hJ1
      go_simp
      exact hK _ _ hJ (Below.refl _ _) trivial
     refine Inv.from_cons _ _ _ _ rfl (fun _ a w hJ hF F K hK => ?_) ?_
     ·have hz : a.tmps.size = 49 := hF.size
      have e34 : a.tmps[34]? = some (.bool true) := Inv2.some_slot (by rw [hz]; exact Nat.le_of_ble_eq_true rfl) (F 7 (by kernel_rfl) 34 rfl)
      clear F hF hz
      have hJ1 := hJ
      obtain ⟨jon, jz, jp, jq, jr⟩ := hJ1
      go_simp
      exact hK (.bool true) _ hJ (Below.refl _ _) rfl
     refine Inv.from_cons _ _ _ _ rfl (fun _ a w hJ hF F K hK => ?_) ?_
     ·have hz : a.tmps.size = 49 := hF.size
      have e39 : a.tmps[39]? = some (.bool true) := Inv2.some_slot (by rw [hz]; exact Nat.le_of_ble_eq_true rfl) (F 12 (by kernel_rfl) 39 rfl)
      clear F hF hz
      have hJ1 := hJ
      obtain ⟨jon, jz, jp, jq, jr⟩ := hJ1
      go_simp
      exact hK (.bool true) _ hJ (Below.refl _ _) rfl
     refine Inv.from_cons _ _ _ _ rfl (fun _ a w hJ hF F K hK => ?_) ?_
     ·have hz : a.tmps.size = 49 := hF.size
      have e8 : a.tmps[8]? = some (.pointer (some ⟨bp, 0, none⟩)) := Inv2.some_slot (by rw [hz]; exact Nat.le_of_ble_eq_true rfl) (hF.slot 8 (by kernel_rfl))
      have e40 : a.tmps[40]? = some (.bool true) := Inv2.some_slot (by rw [hz]; exact Nat.le_of_ble_eq_true rfl) (F 13 (by kernel_rfl) 40 rfl)
      clear F hF hz
      have hJ1 := hJ
      obtain ⟨jon, jz, jp, jq, jr⟩ := hJ1
      go_simp
      exact hK _ _ hJ (Below.refl _ _) trivial
     refine Inv.from_cons _ _ _ _ rfl (fun _ a w hJ hF F K hK => ?_) ?_
     ·have hz : a.tmps.size = 49 := hF.size
      have e10 : a.tmps[10]? = some (.pointer (some ⟨bq, 0, none⟩)) := Inv2.some_slot (by rw [hz]; exact Nat.le_of_ble_eq_true rfl) (hF.slot 10 (by kernel_rfl))
      have e40 : a.tmps[40]? = some (.bool true) := Inv2.some_slot (by rw [hz]; exact Nat.le_of_ble_eq_true rfl) (F 13 (by kernel_rfl) 40 rfl)
      clear F hF hz
      have hJ1 := hJ
      obtain ⟨jon, jz, jp, jq, jr⟩ := hJ1
      go_simp
      exact hK _ _ hJ (Below.refl _ _) trivial
     refine Inv.from_cons _ _ _ _ rfl (fun _ a w hJ hF F K hK => ?_) ?_
     ·have hz : a.tmps.size = 49 := hF.size
      have e40 : a.tmps[40]? = some (.bool true) := Inv2.some_slot (by rw [hz]; exact Nat.le_of_ble_eq_true rfl) (F 13 (by kernel_rfl) 40 rfl)
      clear F hF hz
      have hJ1 := hJ
      obtain ⟨jon, jz, jp, jq, jr⟩ := hJ1
      go_simp
      exact hK _ _ hJ (Below.refl _ _) trivial
     refine Inv.from_cons _ _ _ _ rfl (fun _ a w hJ hF F K hK => ?_) ?_
     ·have hz : a.tmps.size = 49 := hF.size
      have e40 : a.tmps[40]? = some (.bool true) := Inv2.some_slot (by rw [hz]; exact Nat.le_of_ble_eq_true rfl) (F 13 (by kernel_rfl) 40 rfl)
      clear F hF hz
      have hJ1 := hJ
      obtain ⟨jon, jz, jp, jq, jr⟩ := hJ1
      go_simp
      exact hK _ _ hJ (Below.refl _ _) trivial
     refine Inv.from_cons _ _ _ _ rfl (fun _ a w hJ hF F K hK => ?_) ?_
     ·have hz : a.tmps.size = 49 := hF.size
      have e40 : a.tmps[40]? = some (.bool true) := Inv2.some_slot (by rw [hz]; exact Nat.le_of_ble_eq_true rfl) (F 13 (by kernel_rfl) 40 rfl)
      clear F hF hz
      have hJ1 := hJ
      obtain ⟨jon, jz, jp, jq, jr⟩ := hJ1
      go_simp
      exact hK _ _ hJ (Below.refl _ _) trivial
     refine Inv.from_cons _ _ _ _ rfl (fun _ a w hJ hF F K hK => ?_) ?_
     ·have hz : a.tmps.size = 49 := hF.size
      have e40 : a.tmps[40]? = some (.bool true) := Inv2.some_slot (by rw [hz]; exact Nat.le_of_ble_eq_true rfl) (F 13 (by kernel_rfl) 40 rfl)
      clear F hF hz
      have hJ1 := hJ
      obtain ⟨jon, jz, jp, jq, jr⟩ := hJ1
      go_simp
      exact hK (.bool true) _ hJ (Below.refl _ _) rfl
     exact Inv.from_end _ _ _ _ (by decide +kernel)
    ·intro o ho; exact absurd ho (by simp)
    ·intro _ a w hJ hF F
     obtain ⟨f, hf⟩ : ∃ f : Nat → Value, ∀ i, a.tmps.getD i undef = f i := ⟨_, fun _ => rfl⟩
     have g1 : f 1 = (.int .i64 s) := (hf 1).symm.trans (hF.slot 1 (by kernel_rfl))
     have g6 : f 6 = (.pointer (some ⟨bx, 0, none⟩)) := (hf 6).symm.trans (hF.slot 6 (by kernel_rfl))
     have g7 : f 7 = (.int .i64 0) := (hf 7).symm.trans (hF.slot 7 (by kernel_rfl))
     have g8 : f 8 = (.pointer (some ⟨bp, 0, none⟩)) := (hf 8).symm.trans (hF.slot 8 (by kernel_rfl))
     have g10 : f 10 = (.pointer (some ⟨bq, 0, none⟩)) := (hf 10).symm.trans (hF.slot 10 (by kernel_rfl))
     have g11 : f 11 = (.bool true) := (hf 11).symm.trans (hF.slot 11 (by kernel_rfl))
     have g27 : f 27 = (.bool true) := (hf 27).symm.trans (F 0 27 rfl)
     have g28 : f 28 = (.bool false) := (hf 28).symm.trans (F 1 28 rfl)
     have g29 : f 29 = (.bool false) := (hf 29).symm.trans (F 2 29 rfl)
     have g30 : f 30 = (.agg #[.int .i64 x.ep, .int .i64 x.root, .int .i64 x.free, .int .i64 x.pages]) := (hf 30).symm.trans (F 3 30 rfl)
     have g31 : f 31 = (.bool false) := (hf 31).symm.trans (F 4 31 rfl)
     have g32 : f 32 = (.bool true) := (hf 32).symm.trans (F 5 32 rfl)
     have g33 : f 33 = (.bool true) := (hf 33).symm.trans (F 6 33 rfl)
     have g34 : f 34 = (.bool true) := (hf 34).symm.trans (F 7 34 rfl)
     have g39 : f 39 = (.bool true) := (hf 39).symm.trans (F 12 39 rfl)
     have g40 : f 40 = (.bool true) := (hf 40).symm.trans (F 13 40 rfl)
     have g46 : f 46 = (.bool true) := (hf 46).symm.trans (F 19 46 rfl)
     have ha := Frames.frame (show a.tmps.size = 49 from hF.size) hF.defers hf (l := [f 0, f 1, f 2, f 3, f 4, f 5, f 6, f 7, f 8, f 9, f 10, f 11, f 12, f 13, f 14, f 15, f 16, f 17, f 18, f 19, f 20, f 21, f 22, f 23, f 24, f 25, f 26, f 27, f 28, f 29, f 30, f 31, f 32, f 33, f 34, f 35, f 36, f 37, f 38, f 39, f 40, f 41, f 42, f 43, f 44, f 45, f 46, f 47, f 48]) rfl
     simp only [g1, g6, g7, g8, g10, g11, g27, g28, g29, g30, g31, g32, g33, g34, g39, g40, g46] at ha
     clear F hF hf g1 g6 g7 g8 g10 g11 g27 g28 g29 g30 g31 g32 g33 g34 g39 g40 g46
     subst ha
     have hJ1 := hJ
     obtain ⟨jon, jz, jp, jq, jr⟩ := hJ1
     clear hJ
     obtain ⟨c0, c1, c2, c3⟩ := jz.cells
     have z0 := At.frozen jz 0
     have z1 := At.frozen jz 1
     have z2 := At.frozen jz 2
     have z3 := At.frozen jz 3
     clear jp jr jq
     go_wp2_with fail
     refine bodyPost_ret (results_cell_tmp_row rfl _ _ bx 29 _ (0, 0) _ rfl (bs_over jz zer) Tryz.underlying29 rfl (by kernel_rfl)) rfl ?_
     exact ⟨by rw [HA.out, HR.out]; rfl, o2_over jon HX.out hxg zer⟩
   have HC := Lib.hid (decide_eq_true hok)
   have HO := Lib.hid hok
   have HEM := Lib.hid (show x.ep.tmod 2 = x.ep % 2 from Int.tmod_eq_emod_of_nonneg hok.1)
   by_cases hs : x.ep % 2 = s
   rotate_left
   ·have HR := Lib.hid (hgt.trans (if_neg fun z => hs (of_iff.1 z).2.2))
    have HNE := Lib.hid (show (x.ep % 2 != s) = true by simpa using hs)
    clear hgt hok hs
    refine wp_region_any (by kernel_rfl) ?_
    change wpAny _ _ _ _ _ _ _ (World.drew _)
    refine Inv.inv_any (fun (i : Nat) (v : Value) (w : World) => match i with | 0 => v = .bool true | 1 => v = .bool false | 2 => v = .bool false | 3 => v = .agg #[.int .i64 x.ep, .int .i64 x.root, .int .i64 x.free, .int .i64 x.pages] | 4 => v = .bool true | 5 => v = .bool false | 6 => v = .bool false | 7 => v = .bool false | 8 => v = .agg #[.int .i64 x.ep, .int .i64 x.root, .int .i64 x.free, .int .i64 x.pages] | 9 => v = .int .i64 (x.ep % 2) | 10 => v = .int .i64 s | 11 => v = .bool true | 12 => v = .bool true | 13 => v = .bool true | 19 => v = .bool true | _ => True) (fun w' : World => JG W g n bx bp bq p A c' x w') _ 20 49 rfl rfl rfl (by kernel_rfl) (by kernel_rfl) hJ0 ?_ ?_ ?_ ?_
    ·intro j v w w' h hb
     match j, h with
     | 0, h => exact h
     | 1, h => exact h
     | 2, h => exact h
     | 3, h => exact h
     | 4, h => exact h
     | 5, h => exact h
     | 6, h => exact h
     | 7, h => exact h
     | 8, h => exact h
     | 9, h => exact h
     | 10, h => exact h
     | 11, h => exact h
     | 12, h => exact h
     | 13, h => exact h
     | 19, h => exact h
     | 14, _ => exact trivial
     | 15, _ => exact trivial
     | 16, _ => exact trivial
     | 17, _ => exact trivial
     | 18, _ => exact trivial
     | (_ + 20), _ => exact trivial
    ·skip
     refine Inv.from_cons _ _ _ _ rfl (fun _ a w hJ hF F K hK => ?_) ?_
     ·have hz : a.tmps.size = 49 := hF.size
      have e11 : a.tmps[11]? = some (.bool true) := Inv2.some_slot (by rw [hz]; exact Nat.le_of_ble_eq_true rfl) (hF.slot 11 (by kernel_rfl))
      clear F hF hz
      have hJ1 := hJ
      obtain ⟨jon, jz, jp, jq, jr⟩ := hJ1
      go_simp
      exact hK (.bool true) _ hJ (Below.refl _ _) rfl
     refine Inv.from_cons _ _ _ _ rfl (fun _ a w hJ hF F K hK => ?_) ?_
     ·have hz : a.tmps.size = 49 := hF.size
      have e27 : a.tmps[27]? = some (.bool true) := Inv2.some_slot (by rw [hz]; exact Nat.le_of_ble_eq_true rfl) (F 0 (by kernel_rfl) 27 rfl)
      clear F hF hz
      have hJ1 := hJ
      obtain ⟨jon, jz, jp, jq, jr⟩ := hJ1
      go_simp
      exact hK (.bool false) _ hJ (Below.refl _ _) rfl
     refine Inv.from_cons _ _ _ _ rfl (fun _ a w hJ hF F K hK => ?_) ?_
     ·have hz : a.tmps.size = 49 := hF.size
      have e28 : a.tmps[28]? = some (.bool false) := Inv2.some_slot (by rw [hz]; exact Nat.le_of_ble_eq_true rfl) (F 1 (by kernel_rfl) 28 rfl)
      clear F hF hz
      have hJ1 := hJ
      obtain ⟨jon, jz, jp, jq, jr⟩ := hJ1
      go_simp
      exact hK (.bool false) _ hJ (Below.refl _ _) rfl
     refine Inv.from_cons _ _ _ _ rfl (fun _ a w hJ hF F K hK => ?_) ?_
     ·have hz : a.tmps.size = 49 := hF.size
      have e10 : a.tmps[10]? = some (.pointer (some ⟨bq, 0, none⟩)) := Inv2.some_slot (by rw [hz]; exact Nat.le_of_ble_eq_true rfl) (hF.slot 10 (by kernel_rfl))
      have e29 : a.tmps[29]? = some (.bool false) := Inv2.some_slot (by rw [hz]; exact Nat.le_of_ble_eq_true rfl) (F 2 (by kernel_rfl) 29 rfl)
      clear F hF hz
      have hJ1 := hJ
      obtain ⟨jon, jz, jp, jq, jr⟩ := hJ1
      obtain ⟨d0, d1, d2, d3⟩ := jq.cells
      go_simp
      exact hK (.agg #[.int .i64 x.ep, .int .i64 x.root, .int .i64 x.free, .int .i64 x.pages]) _ hJ (Below.refl _ _) rfl
     refine Inv.from_cons _ _ _ _ rfl (fun _ a w hJ hF F K hK => ?_) ?_
     ·have hz : a.tmps.size = 49 := hF.size
      have e29 : a.tmps[29]? = some (.bool false) := Inv2.some_slot (by rw [hz]; exact Nat.le_of_ble_eq_true rfl) (F 2 (by kernel_rfl) 29 rfl)
      have e30 : a.tmps[30]? = some (.agg #[.int .i64 x.ep, .int .i64 x.root, .int .i64 x.free, .int .i64 x.pages]) := Inv2.some_slot (by rw [hz]; exact Nat.le_of_ble_eq_true rfl) (F 3 (by kernel_rfl) 30 rfl)
      clear F hF hz
      have hJ1 := hJ
      obtain ⟨jon, jz, jp, jq, jr⟩ := hJ1
      have hh := check_any w x
      rw [HC.out] at hh
      go_simp
      (with_reducible refine hh.mono ?_)
      rintro e' w' ⟨rfl, hb⟩
      go_simp
      exact hK _ _ (hJ.below hb) hb rfl
     refine Inv.from_cons _ _ _ _ rfl (fun _ a w hJ hF F K hK => ?_) ?_
     ·have hz : a.tmps.size = 49 := hF.size
      have e29 : a.tmps[29]? = some (.bool false) := Inv2.some_slot (by rw [hz]; exact Nat.le_of_ble_eq_true rfl) (F 2 (by kernel_rfl) 29 rfl)
      have e31 : a.tmps[31]? = some (.bool true) := Inv2.some_slot (by rw [hz]; exact Nat.le_of_ble_eq_true rfl) (F 4 (by kernel_rfl) 31 rfl)
      clear F hF hz
      have hJ1 := hJ
      obtain ⟨jon, jz, jp, jq, jr⟩ := hJ1
      go_simp
      exact hK (.bool false) _ hJ (Below.refl _ _) rfl
     refine Inv.from_cons _ _ _ _ rfl (fun _ a w hJ hF F K hK => ?_) ?_
     ·have hz : a.tmps.size = 49 := hF.size
      have e29 : a.tmps[29]? = some (.bool false) := Inv2.some_slot (by rw [hz]; exact Nat.le_of_ble_eq_true rfl) (F 2 (by kernel_rfl) 29 rfl)
      have e32 : a.tmps[32]? = some (.bool false) := Inv2.some_slot (by rw [hz]; exact Nat.le_of_ble_eq_true rfl) (F 5 (by kernel_rfl) 32 rfl)
      clear F hF hz
      have hJ1 := hJ
      obtain ⟨jon, jz, jp, jq, jr⟩ := hJ1
      go_simp
      exact hK (.bool false) _ hJ (Below.refl _ _) rfl
     refine Inv.from_cons _ _ _ _ rfl (fun _ a w hJ hF F K hK => ?_) ?_
     ·have hz : a.tmps.size = 49 := hF.size
      have e31 : a.tmps[31]? = some (.bool true) := Inv2.some_slot (by rw [hz]; exact Nat.le_of_ble_eq_true rfl) (F 4 (by kernel_rfl) 31 rfl)
      have e33 : a.tmps[33]? = some (.bool false) := Inv2.some_slot (by rw [hz]; exact Nat.le_of_ble_eq_true rfl) (F 6 (by kernel_rfl) 33 rfl)
      clear F hF hz
      have hJ1 := hJ
      obtain ⟨jon, jz, jp, jq, jr⟩ := hJ1
      go_simp
      exact hK (.bool false) _ hJ (Below.refl _ _) rfl
     refine Inv.from_cons _ _ _ _ rfl (fun _ a w hJ hF F K hK => ?_) ?_
     ·have hz : a.tmps.size = 49 := hF.size
      have e10 : a.tmps[10]? = some (.pointer (some ⟨bq, 0, none⟩)) := Inv2.some_slot (by rw [hz]; exact Nat.le_of_ble_eq_true rfl) (hF.slot 10 (by kernel_rfl))
      have e34 : a.tmps[34]? = some (.bool false) := Inv2.some_slot (by rw [hz]; exact Nat.le_of_ble_eq_true rfl) (F 7 (by kernel_rfl) 34 rfl)
      clear F hF hz
      have hJ1 := hJ
      obtain ⟨jon, jz, jp, jq, jr⟩ := hJ1
      obtain ⟨d0, d1, d2, d3⟩ := jq.cells
      go_simp
      exact hK (.agg #[.int .i64 x.ep, .int .i64 x.root, .int .i64 x.free, .int .i64 x.pages]) _ hJ (Below.refl _ _) rfl
     refine Inv.from_cons _ _ _ _ rfl (fun _ a w hJ hF F K hK => ?_) ?_
     ·have hz : a.tmps.size = 49 := hF.size
      have e34 : a.tmps[34]? = some (.bool false) := Inv2.some_slot (by rw [hz]; exact Nat.le_of_ble_eq_true rfl) (F 7 (by kernel_rfl) 34 rfl)
      have e35 : a.tmps[35]? = some (.agg #[.int .i64 x.ep, .int .i64 x.root, .int .i64 x.free, .int .i64 x.pages]) := Inv2.some_slot (by rw [hz]; exact Nat.le_of_ble_eq_true rfl) (F 8 (by kernel_rfl) 35 rfl)
      clear F hF hz
      have hJ1 := hJ
      obtain ⟨jon, jz, jp, jq, jr⟩ := hJ1
      have hh := slot_any w x
      rw [HEM.out] at hh
      go_simp
      (with_reducible refine hh.mono ?_)
      rintro e' w' ⟨rfl, hb⟩
      go_simp
      exact hK _ _ (hJ.below hb) hb rfl
     refine Inv.from_cons _ _ _ _ rfl (fun _ a w hJ hF F K hK => ?_) ?_
     ·have hz : a.tmps.size = 49 := hF.size
      have e1 : a.tmps[1]? = some (.int .i64 s) := Inv2.some_slot (by rw [hz]; exact Nat.le_of_ble_eq_true rfl) (hF.slot 1 (by kernel_rfl))
      have e34 : a.tmps[34]? = some (.bool false) := Inv2.some_slot (by rw [hz]; exact Nat.le_of_ble_eq_true rfl) (F 7 (by kernel_rfl) 34 rfl)
      clear F hF hz
      have hJ1 := hJ
      obtain ⟨jon, jz, jp, jq, jr⟩ := hJ1
      go_simp
      exact hK (.int .i64 s) _ hJ (Below.refl _ _) rfl
     refine Inv.from_cons _ _ _ _ rfl (fun _ a w hJ hF F K hK => ?_) ?_
     ·have hz : a.tmps.size = 49 := hF.size
      have e34 : a.tmps[34]? = some (.bool false) := Inv2.some_slot (by rw [hz]; exact Nat.le_of_ble_eq_true rfl) (F 7 (by kernel_rfl) 34 rfl)
      have e36 : a.tmps[36]? = some (.int .i64 (x.ep % 2)) := Inv2.some_slot (by rw [hz]; exact Nat.le_of_ble_eq_true rfl) (F 9 (by kernel_rfl) 36 rfl)
      have e37 : a.tmps[37]? = some (.int .i64 s) := Inv2.some_slot (by rw [hz]; exact Nat.le_of_ble_eq_true rfl) (F 10 (by kernel_rfl) 37 rfl)
      clear F hF hz
      have hJ1 := hJ
      obtain ⟨jon, jz, jp, jq, jr⟩ := hJ1
      have hne := HNE.out
      go_simp
      exact hK (.bool true) _ hJ (Below.refl _ _) rfl
     refine Inv.from_cons _ _ _ _ rfl (fun _ a w hJ hF F K hK => ?_) ?_
     ·have hz : a.tmps.size = 49 := hF.size
      have e34 : a.tmps[34]? = some (.bool false) := Inv2.some_slot (by rw [hz]; exact Nat.le_of_ble_eq_true rfl) (F 7 (by kernel_rfl) 34 rfl)
      have e38 : a.tmps[38]? = some (.bool true) := Inv2.some_slot (by rw [hz]; exact Nat.le_of_ble_eq_true rfl) (F 11 (by kernel_rfl) 38 rfl)
      clear F hF hz
      have hJ1 := hJ
      obtain ⟨jon, jz, jp, jq, jr⟩ := hJ1
      go_simp
      exact hK (.bool true) _ hJ (Below.refl _ _) rfl
     refine Inv.from_cons _ _ _ _ rfl (fun _ a w hJ hF F K hK => ?_) ?_
     ·have hz : a.tmps.size = 49 := hF.size
      have e36 : a.tmps[36]? = some (.int .i64 (x.ep % 2)) := Inv2.some_slot (by rw [hz]; exact Nat.le_of_ble_eq_true rfl) (F 9 (by kernel_rfl) 36 rfl)
      have e39 : a.tmps[39]? = some (.bool true) := Inv2.some_slot (by rw [hz]; exact Nat.le_of_ble_eq_true rfl) (F 12 (by kernel_rfl) 39 rfl)
      clear F hF hz
      have hJ1 := hJ
      obtain ⟨jon, jz, jp, jq, jr⟩ := hJ1
      go_simp
      exact hK (.bool true) _ hJ (Below.refl _ _) rfl
     refine Inv.from_cons _ _ _ _ rfl (fun _ a w hJ hF F K hK => ?_) ?_
     ·have hz : a.tmps.size = 49 := hF.size
      have e8 : a.tmps[8]? = some (.pointer (some ⟨bp, 0, none⟩)) := Inv2.some_slot (by rw [hz]; exact Nat.le_of_ble_eq_true rfl) (hF.slot 8 (by kernel_rfl))
      have e40 : a.tmps[40]? = some (.bool true) := Inv2.some_slot (by rw [hz]; exact Nat.le_of_ble_eq_true rfl) (F 13 (by kernel_rfl) 40 rfl)
      clear F hF hz
      have hJ1 := hJ
      obtain ⟨jon, jz, jp, jq, jr⟩ := hJ1
      go_simp
      exact hK _ _ hJ (Below.refl _ _) trivial
     refine Inv.from_cons _ _ _ _ rfl (fun _ a w hJ hF F K hK => ?_) ?_
     ·have hz : a.tmps.size = 49 := hF.size
      have e10 : a.tmps[10]? = some (.pointer (some ⟨bq, 0, none⟩)) := Inv2.some_slot (by rw [hz]; exact Nat.le_of_ble_eq_true rfl) (hF.slot 10 (by kernel_rfl))
      have e40 : a.tmps[40]? = some (.bool true) := Inv2.some_slot (by rw [hz]; exact Nat.le_of_ble_eq_true rfl) (F 13 (by kernel_rfl) 40 rfl)
      clear F hF hz
      have hJ1 := hJ
      obtain ⟨jon, jz, jp, jq, jr⟩ := hJ1
      go_simp
      exact hK _ _ hJ (Below.refl _ _) trivial
     refine Inv.from_cons _ _ _ _ rfl (fun _ a w hJ hF F K hK => ?_) ?_
     ·have hz : a.tmps.size = 49 := hF.size
      have e40 : a.tmps[40]? = some (.bool true) := Inv2.some_slot (by rw [hz]; exact Nat.le_of_ble_eq_true rfl) (F 13 (by kernel_rfl) 40 rfl)
      clear F hF hz
      have hJ1 := hJ
      obtain ⟨jon, jz, jp, jq, jr⟩ := hJ1
      go_simp
      exact hK _ _ hJ (Below.refl _ _) trivial
     refine Inv.from_cons _ _ _ _ rfl (fun _ a w hJ hF F K hK => ?_) ?_
     ·have hz : a.tmps.size = 49 := hF.size
      have e40 : a.tmps[40]? = some (.bool true) := Inv2.some_slot (by rw [hz]; exact Nat.le_of_ble_eq_true rfl) (F 13 (by kernel_rfl) 40 rfl)
      clear F hF hz
      have hJ1 := hJ
      obtain ⟨jon, jz, jp, jq, jr⟩ := hJ1
      go_simp
      exact hK _ _ hJ (Below.refl _ _) trivial
     refine Inv.from_cons _ _ _ _ rfl (fun _ a w hJ hF F K hK => ?_) ?_
     ·have hz : a.tmps.size = 49 := hF.size
      have e40 : a.tmps[40]? = some (.bool true) := Inv2.some_slot (by rw [hz]; exact Nat.le_of_ble_eq_true rfl) (F 13 (by kernel_rfl) 40 rfl)
      clear F hF hz
      have hJ1 := hJ
      obtain ⟨jon, jz, jp, jq, jr⟩ := hJ1
      go_simp
      exact hK _ _ hJ (Below.refl _ _) trivial
     refine Inv.from_cons _ _ _ _ rfl (fun _ a w hJ hF F K hK => ?_) ?_
     ·have hz : a.tmps.size = 49 := hF.size
      have e40 : a.tmps[40]? = some (.bool true) := Inv2.some_slot (by rw [hz]; exact Nat.le_of_ble_eq_true rfl) (F 13 (by kernel_rfl) 40 rfl)
      clear F hF hz
      have hJ1 := hJ
      obtain ⟨jon, jz, jp, jq, jr⟩ := hJ1
      go_simp
      exact hK (.bool true) _ hJ (Below.refl _ _) rfl
     exact Inv.from_end _ _ _ _ (by decide +kernel)
    ·intro o ho; exact absurd ho (by simp)
    ·intro _ a w hJ hF F
     obtain ⟨f, hf⟩ : ∃ f : Nat → Value, ∀ i, a.tmps.getD i undef = f i := ⟨_, fun _ => rfl⟩
     have g1 : f 1 = (.int .i64 s) := (hf 1).symm.trans (hF.slot 1 (by kernel_rfl))
     have g6 : f 6 = (.pointer (some ⟨bx, 0, none⟩)) := (hf 6).symm.trans (hF.slot 6 (by kernel_rfl))
     have g7 : f 7 = (.int .i64 0) := (hf 7).symm.trans (hF.slot 7 (by kernel_rfl))
     have g8 : f 8 = (.pointer (some ⟨bp, 0, none⟩)) := (hf 8).symm.trans (hF.slot 8 (by kernel_rfl))
     have g10 : f 10 = (.pointer (some ⟨bq, 0, none⟩)) := (hf 10).symm.trans (hF.slot 10 (by kernel_rfl))
     have g11 : f 11 = (.bool true) := (hf 11).symm.trans (hF.slot 11 (by kernel_rfl))
     have g27 : f 27 = (.bool true) := (hf 27).symm.trans (F 0 27 rfl)
     have g28 : f 28 = (.bool false) := (hf 28).symm.trans (F 1 28 rfl)
     have g29 : f 29 = (.bool false) := (hf 29).symm.trans (F 2 29 rfl)
     have g30 : f 30 = (.agg #[.int .i64 x.ep, .int .i64 x.root, .int .i64 x.free, .int .i64 x.pages]) := (hf 30).symm.trans (F 3 30 rfl)
     have g31 : f 31 = (.bool true) := (hf 31).symm.trans (F 4 31 rfl)
     have g32 : f 32 = (.bool false) := (hf 32).symm.trans (F 5 32 rfl)
     have g33 : f 33 = (.bool false) := (hf 33).symm.trans (F 6 33 rfl)
     have g34 : f 34 = (.bool false) := (hf 34).symm.trans (F 7 34 rfl)
     have g35 : f 35 = (.agg #[.int .i64 x.ep, .int .i64 x.root, .int .i64 x.free, .int .i64 x.pages]) := (hf 35).symm.trans (F 8 35 rfl)
     have g36 : f 36 = (.int .i64 (x.ep % 2)) := (hf 36).symm.trans (F 9 36 rfl)
     have g37 : f 37 = (.int .i64 s) := (hf 37).symm.trans (F 10 37 rfl)
     have g38 : f 38 = (.bool true) := (hf 38).symm.trans (F 11 38 rfl)
     have g39 : f 39 = (.bool true) := (hf 39).symm.trans (F 12 39 rfl)
     have g40 : f 40 = (.bool true) := (hf 40).symm.trans (F 13 40 rfl)
     have g46 : f 46 = (.bool true) := (hf 46).symm.trans (F 19 46 rfl)
     have ha := Frames.frame (show a.tmps.size = 49 from hF.size) hF.defers hf (l := [f 0, f 1, f 2, f 3, f 4, f 5, f 6, f 7, f 8, f 9, f 10, f 11, f 12, f 13, f 14, f 15, f 16, f 17, f 18, f 19, f 20, f 21, f 22, f 23, f 24, f 25, f 26, f 27, f 28, f 29, f 30, f 31, f 32, f 33, f 34, f 35, f 36, f 37, f 38, f 39, f 40, f 41, f 42, f 43, f 44, f 45, f 46, f 47, f 48]) rfl
     simp only [g1, g6, g7, g8, g10, g11, g27, g28, g29, g30, g31, g32, g33, g34, g35, g36, g37, g38, g39, g40, g46] at ha
     clear F hF hf g1 g6 g7 g8 g10 g11 g27 g28 g29 g30 g31 g32 g33 g34 g35 g36 g37 g38 g39 g40 g46
     subst ha
     have hJ1 := hJ
     obtain ⟨jon, jz, jp, jq, jr⟩ := hJ1
     clear hJ
     obtain ⟨c0, c1, c2, c3⟩ := jz.cells
     have z0 := At.frozen jz 0
     have z1 := At.frozen jz 1
     have z2 := At.frozen jz 2
     have z3 := At.frozen jz 3
     clear jp jr jq
     go_wp2_with fail
     refine bodyPost_ret (results_cell_tmp_row rfl _ _ bx 29 _ (0, 0) _ rfl (bs_over jz zer) Tryz.underlying29 rfl (by kernel_rfl)) rfl ?_
     exact ⟨by rw [HA.out, HR.out]; rfl, o2_over jon HX.out hxg zer⟩
   have HNE := Lib.hid (show (x.ep % 2 != s) = false by simpa using hs)
   have HG := Lib.hid (show (same p (pg x) = false → getS s l = .inl 70) ∧ (same p (pg x) = true → getS s l = .inr x) from
    ⟨fun q => hgt.trans (if_neg fun z => by rw [(same_iff _ _).2 (of_iff.1 z).2.1] at q; cases q), fun q => hgt.trans (if_pos (of_iff.2 ⟨hok, (same_iff _ _).1 q, hs⟩))⟩)
   clear hgt hok hs
   obtain ⟨sm, hsm⟩ : ∃ b, same p (pg x) = b := ⟨_, rfl⟩
   have HS := Lib.hid hsm
   clear hsm
   refine wp_region_any (by kernel_rfl) ?_
   change wpAny _ _ _ _ _ _ _ (World.drew _)
   refine Inv.inv_any (fun (i : Nat) (v : Value) (w : World) => match i with | 0 => v = .bool true | 1 => v = .bool false | 2 => v = .bool false | 3 => v = .agg #[.int .i64 x.ep, .int .i64 x.root, .int .i64 x.free, .int .i64 x.pages] | 4 => v = .bool true | 5 => v = .bool false | 6 => v = .bool false | 7 => v = .bool false | 8 => v = .agg #[.int .i64 x.ep, .int .i64 x.root, .int .i64 x.free, .int .i64 x.pages] | 9 => v = .int .i64 (x.ep % 2) | 10 => v = .int .i64 s | 11 => v = .bool false | 12 => v = .bool false | 13 => v = .bool false | 14 => v = .agg #[.int .i64 p.kind, .int .i64 p.no, .int .i64 p.epoch, .int .i64 p.link, .slice A p.cells.length c'] | 15 => v = .agg #[.int .i64 x.ep, .int .i64 x.root, .int .i64 x.free, .int .i64 x.pages] | 16 => NP x 0 (cell x) v w | 17 => v = .bool sm | 18 => v = .bool (!sm) | 19 => v = .bool (!sm) | _ => True) (fun w' : World => JG W g n bx bp bq p A c' x w') _ 20 49 rfl rfl rfl (by kernel_rfl) (by kernel_rfl) hJ0 ?_ ?_ ?_ ?_
   ·intro j v w w' h hb
    match j, h with
    | 0, h => exact h
    | 1, h => exact h
    | 2, h => exact h
    | 3, h => exact h
    | 4, h => exact h
    | 5, h => exact h
    | 6, h => exact h
    | 7, h => exact h
    | 8, h => exact h
    | 9, h => exact h
    | 10, h => exact h
    | 11, h => exact h
    | 12, h => exact h
    | 13, h => exact h
    | 14, h => exact h
    | 15, h => exact h
    | 16, h => exact NP.below h hb
    | 17, h => exact h
    | 18, h => exact h
    | 19, h => exact h
    | (_ + 20), _ => exact trivial
   ·skip
    refine Inv.from_cons _ _ _ _ rfl (fun _ a w hJ hF F K hK => ?_) ?_
    ·have hz : a.tmps.size = 49 := hF.size
     have e11 : a.tmps[11]? = some (.bool true) := Inv2.some_slot (by rw [hz]; exact Nat.le_of_ble_eq_true rfl) (hF.slot 11 (by kernel_rfl))
     clear F hF hz
     have hJ1 := hJ
     obtain ⟨jon, jz, jp, jq, jr⟩ := hJ1
     go_simp
     exact hK (.bool true) _ hJ (Below.refl _ _) rfl
    refine Inv.from_cons _ _ _ _ rfl (fun _ a w hJ hF F K hK => ?_) ?_
    ·have hz : a.tmps.size = 49 := hF.size
     have e27 : a.tmps[27]? = some (.bool true) := Inv2.some_slot (by rw [hz]; exact Nat.le_of_ble_eq_true rfl) (F 0 (by kernel_rfl) 27 rfl)
     clear F hF hz
     have hJ1 := hJ
     obtain ⟨jon, jz, jp, jq, jr⟩ := hJ1
     go_simp
     exact hK (.bool false) _ hJ (Below.refl _ _) rfl
    refine Inv.from_cons _ _ _ _ rfl (fun _ a w hJ hF F K hK => ?_) ?_
    ·have hz : a.tmps.size = 49 := hF.size
     have e28 : a.tmps[28]? = some (.bool false) := Inv2.some_slot (by rw [hz]; exact Nat.le_of_ble_eq_true rfl) (F 1 (by kernel_rfl) 28 rfl)
     clear F hF hz
     have hJ1 := hJ
     obtain ⟨jon, jz, jp, jq, jr⟩ := hJ1
     go_simp
     exact hK (.bool false) _ hJ (Below.refl _ _) rfl
    refine Inv.from_cons _ _ _ _ rfl (fun _ a w hJ hF F K hK => ?_) ?_
    ·have hz : a.tmps.size = 49 := hF.size
     have e10 : a.tmps[10]? = some (.pointer (some ⟨bq, 0, none⟩)) := Inv2.some_slot (by rw [hz]; exact Nat.le_of_ble_eq_true rfl) (hF.slot 10 (by kernel_rfl))
     have e29 : a.tmps[29]? = some (.bool false) := Inv2.some_slot (by rw [hz]; exact Nat.le_of_ble_eq_true rfl) (F 2 (by kernel_rfl) 29 rfl)
     clear F hF hz
     have hJ1 := hJ
     obtain ⟨jon, jz, jp, jq, jr⟩ := hJ1
     obtain ⟨d0, d1, d2, d3⟩ := jq.cells
     go_simp
     exact hK (.agg #[.int .i64 x.ep, .int .i64 x.root, .int .i64 x.free, .int .i64 x.pages]) _ hJ (Below.refl _ _) rfl
    refine Inv.from_cons _ _ _ _ rfl (fun _ a w hJ hF F K hK => ?_) ?_
    ·have hz : a.tmps.size = 49 := hF.size
     have e29 : a.tmps[29]? = some (.bool false) := Inv2.some_slot (by rw [hz]; exact Nat.le_of_ble_eq_true rfl) (F 2 (by kernel_rfl) 29 rfl)
     have e30 : a.tmps[30]? = some (.agg #[.int .i64 x.ep, .int .i64 x.root, .int .i64 x.free, .int .i64 x.pages]) := Inv2.some_slot (by rw [hz]; exact Nat.le_of_ble_eq_true rfl) (F 3 (by kernel_rfl) 30 rfl)
     clear F hF hz
     have hJ1 := hJ
     obtain ⟨jon, jz, jp, jq, jr⟩ := hJ1
     have hh := check_any w x
     rw [HC.out] at hh
     go_simp
     (with_reducible refine hh.mono ?_)
     rintro e' w' ⟨rfl, hb⟩
     go_simp
     exact hK _ _ (hJ.below hb) hb rfl
    refine Inv.from_cons _ _ _ _ rfl (fun _ a w hJ hF F K hK => ?_) ?_
    ·have hz : a.tmps.size = 49 := hF.size
     have e29 : a.tmps[29]? = some (.bool false) := Inv2.some_slot (by rw [hz]; exact Nat.le_of_ble_eq_true rfl) (F 2 (by kernel_rfl) 29 rfl)
     have e31 : a.tmps[31]? = some (.bool true) := Inv2.some_slot (by rw [hz]; exact Nat.le_of_ble_eq_true rfl) (F 4 (by kernel_rfl) 31 rfl)
     clear F hF hz
     have hJ1 := hJ
     obtain ⟨jon, jz, jp, jq, jr⟩ := hJ1
     go_simp
     exact hK (.bool false) _ hJ (Below.refl _ _) rfl
    refine Inv.from_cons _ _ _ _ rfl (fun _ a w hJ hF F K hK => ?_) ?_
    ·have hz : a.tmps.size = 49 := hF.size
     have e29 : a.tmps[29]? = some (.bool false) := Inv2.some_slot (by rw [hz]; exact Nat.le_of_ble_eq_true rfl) (F 2 (by kernel_rfl) 29 rfl)
     have e32 : a.tmps[32]? = some (.bool false) := Inv2.some_slot (by rw [hz]; exact Nat.le_of_ble_eq_true rfl) (F 5 (by kernel_rfl) 32 rfl)
     clear F hF hz
     have hJ1 := hJ
     obtain ⟨jon, jz, jp, jq, jr⟩ := hJ1
     go_simp
     exact hK (.bool false) _ hJ (Below.refl _ _) rfl
    refine Inv.from_cons _ _ _ _ rfl (fun _ a w hJ hF F K hK => ?_) ?_
    ·have hz : a.tmps.size = 49 := hF.size
     have e31 : a.tmps[31]? = some (.bool true) := Inv2.some_slot (by rw [hz]; exact Nat.le_of_ble_eq_true rfl) (F 4 (by kernel_rfl) 31 rfl)
     have e33 : a.tmps[33]? = some (.bool false) := Inv2.some_slot (by rw [hz]; exact Nat.le_of_ble_eq_true rfl) (F 6 (by kernel_rfl) 33 rfl)
     clear F hF hz
     have hJ1 := hJ
     obtain ⟨jon, jz, jp, jq, jr⟩ := hJ1
     go_simp
     exact hK (.bool false) _ hJ (Below.refl _ _) rfl
    refine Inv.from_cons _ _ _ _ rfl (fun _ a w hJ hF F K hK => ?_) ?_
    ·have hz : a.tmps.size = 49 := hF.size
     have e10 : a.tmps[10]? = some (.pointer (some ⟨bq, 0, none⟩)) := Inv2.some_slot (by rw [hz]; exact Nat.le_of_ble_eq_true rfl) (hF.slot 10 (by kernel_rfl))
     have e34 : a.tmps[34]? = some (.bool false) := Inv2.some_slot (by rw [hz]; exact Nat.le_of_ble_eq_true rfl) (F 7 (by kernel_rfl) 34 rfl)
     clear F hF hz
     have hJ1 := hJ
     obtain ⟨jon, jz, jp, jq, jr⟩ := hJ1
     obtain ⟨d0, d1, d2, d3⟩ := jq.cells
     go_simp
     exact hK (.agg #[.int .i64 x.ep, .int .i64 x.root, .int .i64 x.free, .int .i64 x.pages]) _ hJ (Below.refl _ _) rfl
    refine Inv.from_cons _ _ _ _ rfl (fun _ a w hJ hF F K hK => ?_) ?_
    ·have hz : a.tmps.size = 49 := hF.size
     have e34 : a.tmps[34]? = some (.bool false) := Inv2.some_slot (by rw [hz]; exact Nat.le_of_ble_eq_true rfl) (F 7 (by kernel_rfl) 34 rfl)
     have e35 : a.tmps[35]? = some (.agg #[.int .i64 x.ep, .int .i64 x.root, .int .i64 x.free, .int .i64 x.pages]) := Inv2.some_slot (by rw [hz]; exact Nat.le_of_ble_eq_true rfl) (F 8 (by kernel_rfl) 35 rfl)
     clear F hF hz
     have hJ1 := hJ
     obtain ⟨jon, jz, jp, jq, jr⟩ := hJ1
     have hh := slot_any w x
     rw [HEM.out] at hh
     go_simp
     (with_reducible refine hh.mono ?_)
     rintro e' w' ⟨rfl, hb⟩
     go_simp
     exact hK _ _ (hJ.below hb) hb rfl
    refine Inv.from_cons _ _ _ _ rfl (fun _ a w hJ hF F K hK => ?_) ?_
    ·have hz : a.tmps.size = 49 := hF.size
     have e1 : a.tmps[1]? = some (.int .i64 s) := Inv2.some_slot (by rw [hz]; exact Nat.le_of_ble_eq_true rfl) (hF.slot 1 (by kernel_rfl))
     have e34 : a.tmps[34]? = some (.bool false) := Inv2.some_slot (by rw [hz]; exact Nat.le_of_ble_eq_true rfl) (F 7 (by kernel_rfl) 34 rfl)
     clear F hF hz
     have hJ1 := hJ
     obtain ⟨jon, jz, jp, jq, jr⟩ := hJ1
     go_simp
     exact hK (.int .i64 s) _ hJ (Below.refl _ _) rfl
    refine Inv.from_cons _ _ _ _ rfl (fun _ a w hJ hF F K hK => ?_) ?_
    ·have hz : a.tmps.size = 49 := hF.size
     have e34 : a.tmps[34]? = some (.bool false) := Inv2.some_slot (by rw [hz]; exact Nat.le_of_ble_eq_true rfl) (F 7 (by kernel_rfl) 34 rfl)
     have e36 : a.tmps[36]? = some (.int .i64 (x.ep % 2)) := Inv2.some_slot (by rw [hz]; exact Nat.le_of_ble_eq_true rfl) (F 9 (by kernel_rfl) 36 rfl)
     have e37 : a.tmps[37]? = some (.int .i64 s) := Inv2.some_slot (by rw [hz]; exact Nat.le_of_ble_eq_true rfl) (F 10 (by kernel_rfl) 37 rfl)
     clear F hF hz
     have hJ1 := hJ
     obtain ⟨jon, jz, jp, jq, jr⟩ := hJ1
     have hne := HNE.out
     go_simp
     exact hK (.bool false) _ hJ (Below.refl _ _) rfl
    refine Inv.from_cons _ _ _ _ rfl (fun _ a w hJ hF F K hK => ?_) ?_
    ·have hz : a.tmps.size = 49 := hF.size
     have e34 : a.tmps[34]? = some (.bool false) := Inv2.some_slot (by rw [hz]; exact Nat.le_of_ble_eq_true rfl) (F 7 (by kernel_rfl) 34 rfl)
     have e38 : a.tmps[38]? = some (.bool false) := Inv2.some_slot (by rw [hz]; exact Nat.le_of_ble_eq_true rfl) (F 11 (by kernel_rfl) 38 rfl)
     clear F hF hz
     have hJ1 := hJ
     obtain ⟨jon, jz, jp, jq, jr⟩ := hJ1
     go_simp
     exact hK (.bool false) _ hJ (Below.refl _ _) rfl
    refine Inv.from_cons _ _ _ _ rfl (fun _ a w hJ hF F K hK => ?_) ?_
    ·have hz : a.tmps.size = 49 := hF.size
     have e36 : a.tmps[36]? = some (.int .i64 (x.ep % 2)) := Inv2.some_slot (by rw [hz]; exact Nat.le_of_ble_eq_true rfl) (F 9 (by kernel_rfl) 36 rfl)
     have e39 : a.tmps[39]? = some (.bool false) := Inv2.some_slot (by rw [hz]; exact Nat.le_of_ble_eq_true rfl) (F 12 (by kernel_rfl) 39 rfl)
     clear F hF hz
     have hJ1 := hJ
     obtain ⟨jon, jz, jp, jq, jr⟩ := hJ1
     go_simp
     exact hK (.bool false) _ hJ (Below.refl _ _) rfl
    refine Inv.from_cons _ _ _ _ rfl (fun _ a w hJ hF F K hK => ?_) ?_
    ·have hz : a.tmps.size = 49 := hF.size
     have e8 : a.tmps[8]? = some (.pointer (some ⟨bp, 0, none⟩)) := Inv2.some_slot (by rw [hz]; exact Nat.le_of_ble_eq_true rfl) (hF.slot 8 (by kernel_rfl))
     have e40 : a.tmps[40]? = some (.bool false) := Inv2.some_slot (by rw [hz]; exact Nat.le_of_ble_eq_true rfl) (F 13 (by kernel_rfl) 40 rfl)
     clear F hF hz
     have hJ1 := hJ
     obtain ⟨jon, jz, jp, jq, jr⟩ := hJ1
     obtain ⟨d0, d1, d2, d3, d4⟩ := five jp
     go_simp
     exact hK (.agg #[.int .i64 p.kind, .int .i64 p.no, .int .i64 p.epoch, .int .i64 p.link, .slice A p.cells.length c']) _ hJ (Below.refl _ _) rfl
    refine Inv.from_cons _ _ _ _ rfl (fun _ a w hJ hF F K hK => ?_) ?_
    ·have hz : a.tmps.size = 49 := hF.size
     have e10 : a.tmps[10]? = some (.pointer (some ⟨bq, 0, none⟩)) := Inv2.some_slot (by rw [hz]; exact Nat.le_of_ble_eq_true rfl) (hF.slot 10 (by kernel_rfl))
     have e40 : a.tmps[40]? = some (.bool false) := Inv2.some_slot (by rw [hz]; exact Nat.le_of_ble_eq_true rfl) (F 13 (by kernel_rfl) 40 rfl)
     clear F hF hz
     have hJ1 := hJ
     obtain ⟨jon, jz, jp, jq, jr⟩ := hJ1
     obtain ⟨d0, d1, d2, d3⟩ := jq.cells
     go_simp
     exact hK (.agg #[.int .i64 x.ep, .int .i64 x.root, .int .i64 x.free, .int .i64 x.pages]) _ hJ (Below.refl _ _) rfl
    refine Inv.from_cons _ _ _ _ rfl (fun _ a w hJ hF F K hK => ?_) ?_
    ·have hz : a.tmps.size = 49 := hF.size
     have e40 : a.tmps[40]? = some (.bool false) := Inv2.some_slot (by rw [hz]; exact Nat.le_of_ble_eq_true rfl) (F 13 (by kernel_rfl) 40 rfl)
     have e42 : a.tmps[42]? = some (.agg #[.int .i64 x.ep, .int .i64 x.root, .int .i64 x.free, .int .i64 x.pages]) := Inv2.some_slot (by rw [hz]; exact Nat.le_of_ble_eq_true rfl) (F 15 (by kernel_rfl) 42 rfl)
     clear F hF hz
     have hJ1 := hJ
     obtain ⟨jon, jz, jp, jq, jr⟩ := hJ1
     have hh := of_any w x HO.out
     go_simp
     (with_reducible refine hh.mono ?_)
     rintro e' w' ⟨b, rfl, _, hat, hb⟩
     go_simp
     exact hK _ _ (hJ.below hb) hb ⟨b, rfl, Nat.zero_le _, hat⟩
    refine Inv.from_cons _ _ _ _ rfl (fun _ a w hJ hF F K hK => ?_) ?_
    ·have hz : a.tmps.size = 49 := hF.size
     have e40 : a.tmps[40]? = some (.bool false) := Inv2.some_slot (by rw [hz]; exact Nat.le_of_ble_eq_true rfl) (F 13 (by kernel_rfl) 40 rfl)
     have e41 : a.tmps[41]? = some (.agg #[.int .i64 p.kind, .int .i64 p.no, .int .i64 p.epoch, .int .i64 p.link, .slice A p.cells.length c']) := Inv2.some_slot (by rw [hz]; exact Nat.le_of_ble_eq_true rfl) (F 14 (by kernel_rfl) 41 rfl)
     obtain ⟨x43, e43, f16⟩ : ∃ xv, a.tmps[43]? = some xv ∧ NP x 0 (cell x) xv w := ⟨_, Inv2.some_slot (by rw [hz]; exact Nat.le_of_ble_eq_true rfl) rfl, F 16 (by kernel_rfl) 43 rfl⟩
     clear F hF hz
     have hJ1 := hJ
     obtain ⟨jon, jz, jp, jq, jr⟩ := hJ1
     obtain ⟨b, rfl, _, hat⟩ := f16
     have hh : Calls Tryz.prog 122 #[.agg #[.int .i64 p.kind, .int .i64 p.no, .int .i64 p.epoch, .int .i64 p.link, .slice A p.cells.length c'], .agg #[.int .i64 9, .int .i64 (x.ep % 2), .int .i64 x.ep, .int .i64 0, .slice (some ⟨b, 0, none⟩) 1 1]] w fun e w' => e = .returned (.bool (same p (pg x))) ∧ Below w.heap.size w w' :=
      same_any w p (pg x) A (some ⟨b, 0, none⟩) c' 1 jr (rowX_row (at_rowX hat (Nat.ne_of_lt (Nat.lt_succ_self b)))) (by rw [told_len HT.out]; decide)
     rw [HS.out] at hh
     go_simp
     (with_reducible refine hh.mono ?_)
     rintro e' w' ⟨rfl, hb⟩
     go_simp
     exact hK _ _ (hJ.below hb) hb rfl
    refine Inv.from_cons _ _ _ _ rfl (fun _ a w hJ hF F K hK => ?_) ?_
    ·have hz : a.tmps.size = 49 := hF.size
     have e40 : a.tmps[40]? = some (.bool false) := Inv2.some_slot (by rw [hz]; exact Nat.le_of_ble_eq_true rfl) (F 13 (by kernel_rfl) 40 rfl)
     have e44 : a.tmps[44]? = some (.bool sm) := Inv2.some_slot (by rw [hz]; exact Nat.le_of_ble_eq_true rfl) (F 17 (by kernel_rfl) 44 rfl)
     clear F hF hz
     have hJ1 := hJ
     obtain ⟨jon, jz, jp, jq, jr⟩ := hJ1
     go_simp
     exact hK (.bool (!sm)) _ hJ (Below.refl _ _) rfl
    refine Inv.from_cons _ _ _ _ rfl (fun _ a w hJ hF F K hK => ?_) ?_
    ·have hz : a.tmps.size = 49 := hF.size
     have e40 : a.tmps[40]? = some (.bool false) := Inv2.some_slot (by rw [hz]; exact Nat.le_of_ble_eq_true rfl) (F 13 (by kernel_rfl) 40 rfl)
     have e45 : a.tmps[45]? = some (.bool (!sm)) := Inv2.some_slot (by rw [hz]; exact Nat.le_of_ble_eq_true rfl) (F 18 (by kernel_rfl) 45 rfl)
     clear F hF hz
     have hJ1 := hJ
     obtain ⟨jon, jz, jp, jq, jr⟩ := hJ1
     go_simp
     exact hK (.bool (!sm)) _ hJ (Below.refl _ _) rfl
    exact Inv.from_end _ _ _ _ (by decide +kernel)
   ·intro o ho; exact absurd ho (by simp)
   ·intro _ a w hJ hF F
    obtain ⟨f, hf⟩ : ∃ f : Nat → Value, ∀ i, a.tmps.getD i undef = f i := ⟨_, fun _ => rfl⟩
    have g1 : f 1 = (.int .i64 s) := (hf 1).symm.trans (hF.slot 1 (by kernel_rfl))
    have g6 : f 6 = (.pointer (some ⟨bx, 0, none⟩)) := (hf 6).symm.trans (hF.slot 6 (by kernel_rfl))
    have g7 : f 7 = (.int .i64 0) := (hf 7).symm.trans (hF.slot 7 (by kernel_rfl))
    have g8 : f 8 = (.pointer (some ⟨bp, 0, none⟩)) := (hf 8).symm.trans (hF.slot 8 (by kernel_rfl))
    have g10 : f 10 = (.pointer (some ⟨bq, 0, none⟩)) := (hf 10).symm.trans (hF.slot 10 (by kernel_rfl))
    have g11 : f 11 = (.bool true) := (hf 11).symm.trans (hF.slot 11 (by kernel_rfl))
    have g27 : f 27 = (.bool true) := (hf 27).symm.trans (F 0 27 rfl)
    have g28 : f 28 = (.bool false) := (hf 28).symm.trans (F 1 28 rfl)
    have g29 : f 29 = (.bool false) := (hf 29).symm.trans (F 2 29 rfl)
    have g30 : f 30 = (.agg #[.int .i64 x.ep, .int .i64 x.root, .int .i64 x.free, .int .i64 x.pages]) := (hf 30).symm.trans (F 3 30 rfl)
    have g31 : f 31 = (.bool true) := (hf 31).symm.trans (F 4 31 rfl)
    have g32 : f 32 = (.bool false) := (hf 32).symm.trans (F 5 32 rfl)
    have g33 : f 33 = (.bool false) := (hf 33).symm.trans (F 6 33 rfl)
    have g34 : f 34 = (.bool false) := (hf 34).symm.trans (F 7 34 rfl)
    have g35 : f 35 = (.agg #[.int .i64 x.ep, .int .i64 x.root, .int .i64 x.free, .int .i64 x.pages]) := (hf 35).symm.trans (F 8 35 rfl)
    have g36 : f 36 = (.int .i64 (x.ep % 2)) := (hf 36).symm.trans (F 9 36 rfl)
    have g37 : f 37 = (.int .i64 s) := (hf 37).symm.trans (F 10 37 rfl)
    have g38 : f 38 = (.bool false) := (hf 38).symm.trans (F 11 38 rfl)
    have g39 : f 39 = (.bool false) := (hf 39).symm.trans (F 12 39 rfl)
    have g40 : f 40 = (.bool false) := (hf 40).symm.trans (F 13 40 rfl)
    have g41 : f 41 = (.agg #[.int .i64 p.kind, .int .i64 p.no, .int .i64 p.epoch, .int .i64 p.link, .slice A p.cells.length c']) := (hf 41).symm.trans (F 14 41 rfl)
    have g42 : f 42 = (.agg #[.int .i64 x.ep, .int .i64 x.root, .int .i64 x.free, .int .i64 x.pages]) := (hf 42).symm.trans (F 15 42 rfl)
    obtain ⟨x43, g43⟩ : ∃ x, f 43 = x := ⟨_, rfl⟩
    have f16 : NP x 0 (cell x) x43 w := by rw [← g43, ← hf 43]; exact F 16 43 rfl
    have g44 : f 44 = (.bool sm) := (hf 44).symm.trans (F 17 44 rfl)
    have g45 : f 45 = (.bool (!sm)) := (hf 45).symm.trans (F 18 45 rfl)
    have g46 : f 46 = (.bool (!sm)) := (hf 46).symm.trans (F 19 46 rfl)
    have ha := Frames.frame (show a.tmps.size = 49 from hF.size) hF.defers hf (l := [f 0, f 1, f 2, f 3, f 4, f 5, f 6, f 7, f 8, f 9, f 10, f 11, f 12, f 13, f 14, f 15, f 16, f 17, f 18, f 19, f 20, f 21, f 22, f 23, f 24, f 25, f 26, f 27, f 28, f 29, f 30, f 31, f 32, f 33, f 34, f 35, f 36, f 37, f 38, f 39, f 40, f 41, f 42, f 43, f 44, f 45, f 46, f 47, f 48]) rfl
    simp only [g1, g6, g7, g8, g10, g11, g27, g28, g29, g30, g31, g32, g33, g34, g35, g36, g37, g38, g39, g40, g41, g42, g43, g44, g45, g46] at ha
    clear F hF hf g1 g6 g7 g8 g10 g11 g27 g28 g29 g30 g31 g32 g33 g34 g35 g36 g37 g38 g39 g40 g41 g42 g43 g44 g45 g46
    subst ha
    have hJ1 := hJ
    obtain ⟨jon, jz, jp, jq, jr⟩ := hJ1
    clear hJ
    obtain ⟨c0, c1, c2, c3⟩ := jz.cells
    have z0 := At.frozen jz 0
    have z1 := At.frozen jz 1
    have z2 := At.frozen jz 2
    have z3 := At.frozen jz 3
    obtain ⟨d0, d1, d2, d3⟩ := jq.cells
    clear jp jr jq f16
    cases sm with
    | true =>
     have HR := Lib.hid (HG.out.2 HS.out)
     go_wp2_with fail
     refine bodyPost_ret (results_cell_tmp_row rfl _ _ bx 29 _ (0, 0) _ rfl (bs_over jz x) Tryz.underlying29 rfl (by kernel_rfl)) rfl ?_
     exact ⟨by rw [HA.out, HR.out]; rfl, o2_over jon HX.out hxg x⟩
    | false =>
     have HR := Lib.hid (HG.out.1 HS.out)
     go_wp2_with fail
     refine bodyPost_ret (results_cell_tmp_row rfl _ _ bx 29 _ (0, 0) _ rfl (bs_over jz zer) Tryz.underlying29 rfl (by kernel_rfl)) rfl ?_
     exact ⟨by rw [HA.out, HR.out]; rfl, o2_over jon HX.out hxg zer⟩
end Go.Proofs.YtpidnkfcccboaaaGreat.SuperGet
