/- SuperPageOf, SuperPut. -/
import Derived.Test.YtpidnkfcccboaaaGreatKInv4
import Derived.Test.YtpidnkfcccboaaaGreatKSuperTold
import Derived.OwnWalk
namespace Go.Proofs.YtpidnkfcccboaaaGreat.SuperPageOf
open Go.RowKit Base SumPlain SumMem SumFill SumOf PagePlain PageSmall PageBytes PageLay PageCut PageTold2 PageAwake PageGet SuperPlain SuperRefCheck SuperSpec SuperCode SuperCellOf

abbrev ZPg : Obj := .cells #[.int .i64 0, .int .i64 0, .int .i64 0, .int .i64 0, .slice none 0 0] 69
/-- the super's box, and the result's -/
structure PwB (W : World) (x : Sp) (bx : Nat) (w : World) : Prop where
 b : Bs w bx x
 z : At w (bx + 1) 69 #[.int .i64 0, .int .i64 0, .int .i64 0, .int .i64 0, .slice none 0 0]
 base : Below bx W w
 lo : bx ≤ w.heap.size
theorem PwB.below {W w w' : World} {x : Sp} {bx : Nat} (h : PwB W x bx w) (hb : Below w.heap.size w w') : PwB W x bx w' :=
 ⟨h.b.below hb, at_below h.z hb, h.base.trans (hb.mono h.lo), Nat.le_trans h.lo hb.size⟩
theorem pw_new (W : World) (x : Sp) : PwB W x W.heap.size ((W.alloc (.cells #[.int .i64 x.ep, .int .i64 x.root, .int .i64 x.free, .int .i64 x.pages] 29)).alloc ZPg) := by
 refine ⟨?_, ?_, Below.step (al _ _) (al _ _), (Below.step (al _ _) (al _ _)).size⟩
 ·exact (bs_new W x).below (al _ _)
 ·have h := heap_alloc_new (W.alloc (.cells #[.int .i64 x.ep, .int .i64 x.root, .int .i64 x.free, .int .i64 x.pages] 29)) ZPg
  rw [show (W.alloc _).heap.size = W.heap.size + 1 from Array.size_push _] at h
  exact h
/-- one text in a block of its own -/
def NS (n0 : Nat) (s : ByteArray) (v : Value) (w : World) : Prop := ∃ b, v = .slice (some ⟨b, 0, none⟩) 1 1 ∧ n0 ≤ b ∧ At w b 9 #[.string s]
theorem NS.below {n0 : Nat} {s : ByteArray} {v : Value} {w w' : World} (h : NS n0 s v w) (hb : Below w.heap.size w w') : NS n0 s v w' := by
 obtain ⟨b, h1, h2, h3⟩ := h
 exact ⟨b, h1, h2, at_below h3 hb⟩
/-- the page's value with it -/
def NP (x : Sp) (n0 : Nat) (s : ByteArray) (v : Value) (w : World) : Prop := ∃ b, v = .agg #[.int .i64 9, .int .i64 (x.ep % 2), .int .i64 x.ep, .int .i64 0, .slice (some ⟨b, 0, none⟩) 1 1] ∧ n0 ≤ b ∧ At w b 9 #[.string s]
theorem NP.below {x : Sp} {n0 : Nat} {s : ByteArray} {v : Value} {w w' : World} (h : NP x n0 s v w) (hb : Below w.heap.size w w') : NP x n0 s v w' := by
 obtain ⟨b, h1, h2, h3⟩ := h
 exact ⟨b, h1, h2, at_below h3 hb⟩
theorem ns_new {n0 : Nat} (s : ByteArray) (w : World) (h : n0 ≤ w.heap.size) : NS n0 s (.slice (some ⟨w.heap.size, 0, none⟩) 1 1) (w.alloc (.cells #[.string s] 9)) := ⟨_, rfl, h, heap_alloc_new w _⟩
/-- what pageOf comes to -/
def OfPost (W : World) (x : Sp) (e : Ending) (w' : World) : Prop :=
 ∃ b, e = .returned (pv (pg x) (some ⟨b, 0, none⟩) 1) ∧ W.heap.size ≤ b ∧ At w' b 9 #[.string (cell x)] ∧ Below W.heap.size W w'
set_option maxRecDepth 100000 in
set_option maxHeartbeats 6400000 in
theorem of_any (W : World) (x : Sp) (hx : Ok x) : Calls Tryz.prog 123 #[sv x] W (OfPost W x) := by
 have h0 := hx.1
 have em : x.ep.tmod 2 = x.ep % 2 := Int.tmod_eq_emod_of_nonneg h0
 have HX := Lib.hid hx
 clear hx h0
 have p0 := pw_new W x
 obtain ⟨w1, hw1⟩ : ∃ v, v = ((W.alloc (.cells #[.int .i64 x.ep, .int .i64 x.root, .int .i64 x.free, .int .i64 x.pages] 29)).alloc ZPg) := ⟨_, rfl⟩
 rw [← hw1] at p0
 have HW := Lib.hid hw1
 clear hw1
 unfold OfPost
 show Calls _ _ _ _ fun e w' => ∃ b, e = .returned (.agg #[.int .i64 9, .int .i64 (x.ep % 2), .int .i64 x.ep, .int .i64 0, .slice (some ⟨b, 0, none⟩) 1 1]) ∧ W.heap.size ≤ b ∧ At w' b 9 #[.string (cell x)] ∧ Below W.heap.size W w'
 obtain ⟨s, hs⟩ : ∃ s, s = cell x := ⟨_, rfl⟩
 rw [← hs]
 have hcell : ∀ v, Calls Tryz.prog 134 #[sv x] v fun e w' => e = .returned (.string s) ∧ Below v.heap.size v w' := fun v => by rw [hs]; exact cell_any v x HX.out
 have HC := Lib.hid hcell
 clear hcell hs
 have HEM := Lib.hid em
 clear em
 generalize hbx : W.heap.size = bx at p0 ⊢
 go_enter Tryz.func123, Tryz.ntmps123
 go_upto_region 1 with fail
 try rw [← HW.out]
 try rw [hbx]
 have hJ0 := p0.below (Below.refl _ _).drew
 clear p0
 refine wp_region_any (by kernel_rfl) ?_
 change wpAny _ _ _ _ _ _ _ (World.drew _)
 refine Inv.inv_any (fun (i : Nat) (v : Value) (w : World) => match i with | 0 => v = .agg #[.int .i64 x.ep, .int .i64 x.root, .int .i64 x.free, .int .i64 x.pages] | 1 => v = .int .i64 (x.ep % 2) | 2 => v = .pointer (some ⟨bx, 0, none⟩) | 3 => v = .int .i64 x.ep | 4 => v = .agg #[.int .i64 x.ep, .int .i64 x.root, .int .i64 x.free, .int .i64 x.pages] | 5 => v = .string s | 6 => NS bx s v w | 7 => NP x bx s v w | _ => True) (fun w' : World => PwB W x bx w') _ 8 11 rfl rfl rfl (by kernel_rfl) (by kernel_rfl) hJ0 ?_ ?_ ?_ ?_
 ·intro j v w w' h hb
  match j, h with
  | 0, h => exact h
  | 1, h => exact h
  | 2, h => exact h
  | 3, h => exact h
  | 4, h => exact h
  | 5, h => exact h
  | 6, h => exact NS.below h hb
  | 7, h => exact NP.below h hb
  | 8, _ => exact trivial
  | (_ + 9), _ => exact trivial
 ·skip
  refine Inv.from_cons _ _ _ _ rfl (fun _ a w hJ hF F K hK => ?_) ?_
  ·have hz : a.tmps.size = 11 := hF.size
   have e1 : a.tmps[1]? = some (.pointer (some ⟨bx, 0, none⟩)) := Inv2.some_slot (by rw [hz]; exact Nat.le_of_ble_eq_true rfl) (hF.slot 1 (by kernel_rfl))
   clear F hF hz
   have hJ1 := hJ
   obtain ⟨jj, jk, jz, jl⟩ := hJ1
   obtain ⟨d0, d1, d2, d3⟩ := jj.cells
   go_simp
   exact hK (.agg #[.int .i64 x.ep, .int .i64 x.root, .int .i64 x.free, .int .i64 x.pages]) _ hJ (Below.refl _ _) rfl
  refine Inv.from_cons _ _ _ _ rfl (fun _ a w hJ hF F K hK => ?_) ?_
  ·have hz : a.tmps.size = 11 := hF.size
   have e3 : a.tmps[3]? = some (.agg #[.int .i64 x.ep, .int .i64 x.root, .int .i64 x.free, .int .i64 x.pages]) := Inv2.some_slot (by rw [hz]; exact Nat.le_of_ble_eq_true rfl) (F 0 (by kernel_rfl) 3 rfl)
   clear F hF hz
   have hJ1 := hJ
   obtain ⟨jj, jk, jz, jl⟩ := hJ1
   have hh := slot_any w x
   rw [HEM.out] at hh
   go_simp
   (with_reducible refine hh.mono ?_)
   rintro e' w' ⟨rfl, hb⟩
   go_simp
   exact hK _ _ (hJ.below hb) hb rfl
  refine Inv.from_cons _ _ _ _ rfl (fun _ a w hJ hF F K hK => ?_) ?_
  ·have hz : a.tmps.size = 11 := hF.size
   have e1 : a.tmps[1]? = some (.pointer (some ⟨bx, 0, none⟩)) := Inv2.some_slot (by rw [hz]; exact Nat.le_of_ble_eq_true rfl) (hF.slot 1 (by kernel_rfl))
   clear F hF hz
   have hJ1 := hJ
   obtain ⟨jj, jk, jz, jl⟩ := hJ1
   go_simp
   exact hK (.pointer (some ⟨bx, 0, none⟩)) _ hJ (Below.refl _ _) rfl
  refine Inv.from_cons _ _ _ _ rfl (fun _ a w hJ hF F K hK => ?_) ?_
  ·have hz : a.tmps.size = 11 := hF.size
   have e5 : a.tmps[5]? = some (.pointer (some ⟨bx, 0, none⟩)) := Inv2.some_slot (by rw [hz]; exact Nat.le_of_ble_eq_true rfl) (F 2 (by kernel_rfl) 5 rfl)
   clear F hF hz
   have hJ1 := hJ
   obtain ⟨jj, jk, jz, jl⟩ := hJ1
   obtain ⟨d0, d1, d2, d3⟩ := jj.cells
   go_simp
   exact hK (.int .i64 x.ep) _ hJ (Below.refl _ _) rfl
  refine Inv.from_cons _ _ _ _ rfl (fun _ a w hJ hF F K hK => ?_) ?_
  ·have hz : a.tmps.size = 11 := hF.size
   have e1 : a.tmps[1]? = some (.pointer (some ⟨bx, 0, none⟩)) := Inv2.some_slot (by rw [hz]; exact Nat.le_of_ble_eq_true rfl) (hF.slot 1 (by kernel_rfl))
   clear F hF hz
   have hJ1 := hJ
   obtain ⟨jj, jk, jz, jl⟩ := hJ1
   obtain ⟨d0, d1, d2, d3⟩ := jj.cells
   go_simp
   exact hK (.agg #[.int .i64 x.ep, .int .i64 x.root, .int .i64 x.free, .int .i64 x.pages]) _ hJ (Below.refl _ _) rfl
  refine Inv.from_cons _ _ _ _ rfl (fun _ a w hJ hF F K hK => ?_) ?_
  ·have hz : a.tmps.size = 11 := hF.size
   have e4 : a.tmps[4]? = some (.int .i64 (x.ep % 2)) := Inv2.some_slot (by rw [hz]; exact Nat.le_of_ble_eq_true rfl) (F 1 (by kernel_rfl) 4 rfl)
   have e7 : a.tmps[7]? = some (.agg #[.int .i64 x.ep, .int .i64 x.root, .int .i64 x.free, .int .i64 x.pages]) := Inv2.some_slot (by rw [hz]; exact Nat.le_of_ble_eq_true rfl) (F 4 (by kernel_rfl) 7 rfl)
   clear F hF hz
   have hJ1 := hJ
   obtain ⟨jj, jk, jz, jl⟩ := hJ1
   have hh := HC.out w
   go_simp
   (with_reducible refine hh.mono ?_)
   rintro e' w' ⟨rfl, hb⟩
   go_simp
   exact hK _ _ (hJ.below hb) hb rfl
  refine Inv.from_cons _ _ _ _ rfl (fun _ a w hJ hF F K hK => ?_) ?_
  ·have hz : a.tmps.size = 11 := hF.size
   have e8 : a.tmps[8]? = some (.string s) := Inv2.some_slot (by rw [hz]; exact Nat.le_of_ble_eq_true rfl) (F 5 (by kernel_rfl) 8 rfl)
   clear F hF hz
   have hJ1 := hJ
   obtain ⟨jj, jk, jz, jl⟩ := hJ1
   go_simp
   exact hK _ _ (hJ.below (al' _ _)) (al' _ _) (ns_new s w jl)
  refine Inv.from_cons _ _ _ _ rfl (fun _ a w hJ hF F K hK => ?_) ?_
  ·have hz : a.tmps.size = 11 := hF.size
   have e4 : a.tmps[4]? = some (.int .i64 (x.ep % 2)) := Inv2.some_slot (by rw [hz]; exact Nat.le_of_ble_eq_true rfl) (F 1 (by kernel_rfl) 4 rfl)
   have e6 : a.tmps[6]? = some (.int .i64 x.ep) := Inv2.some_slot (by rw [hz]; exact Nat.le_of_ble_eq_true rfl) (F 3 (by kernel_rfl) 6 rfl)
   obtain ⟨x9, e9, f6⟩ : ∃ x, a.tmps[9]? = some x ∧ NS bx s x w := ⟨_, Inv2.some_slot (by rw [hz]; exact Nat.le_of_ble_eq_true rfl) rfl, F 6 (by kernel_rfl) 9 rfl⟩
   clear F hF hz
   have hJ1 := hJ
   obtain ⟨jj, jk, jz, jl⟩ := hJ1
   obtain ⟨b, rfl, hb, hat⟩ := f6
   go_simp
   exact hK _ _ hJ (Below.refl _ _) ⟨b, rfl, hb, hat⟩
  refine Inv.from_skip _ _ _ _ rfl ?_
  exact Inv.from_end _ _ _ _ (by decide +kernel)
 ·intro o ho a w hJ hF F K hK
  injection (show some _ = some o from ho) with ho
  subst ho
  obtain ⟨f, hf⟩ : ∃ f : Nat → Value, ∀ i, a.tmps.getD i undef = f i := ⟨_, fun _ => rfl⟩
  have g0 : f 0 = (sv x) := (hf 0).symm.trans (hF.slot 0 (by kernel_rfl))
  have g1 : f 1 = (.pointer (some ⟨bx, 0, none⟩)) := (hf 1).symm.trans (hF.slot 1 (by kernel_rfl))
  have g2 : f 2 = (.pointer (some ⟨(bx + 1), 0, none⟩)) := (hf 2).symm.trans (hF.slot 2 (by kernel_rfl))
  have g3 : f 3 = (.agg #[.int .i64 x.ep, .int .i64 x.root, .int .i64 x.free, .int .i64 x.pages]) := (hf 3).symm.trans (F 0 (by decide) 3 rfl)
  have g4 : f 4 = (.int .i64 (x.ep % 2)) := (hf 4).symm.trans (F 1 (by decide) 4 rfl)
  have g5 : f 5 = (.pointer (some ⟨bx, 0, none⟩)) := (hf 5).symm.trans (F 2 (by decide) 5 rfl)
  have g6 : f 6 = (.int .i64 x.ep) := (hf 6).symm.trans (F 3 (by decide) 6 rfl)
  have g7 : f 7 = (.agg #[.int .i64 x.ep, .int .i64 x.root, .int .i64 x.free, .int .i64 x.pages]) := (hf 7).symm.trans (F 4 (by decide) 7 rfl)
  have g8 : f 8 = (.string s) := (hf 8).symm.trans (F 5 (by decide) 8 rfl)
  obtain ⟨x9, g9⟩ : ∃ x, f 9 = x := ⟨_, rfl⟩
  have f6 : NS bx s x9 w := by rw [← g9, ← hf 9]; exact F 6 (by decide) 9 rfl
  obtain ⟨x10, g10⟩ : ∃ x, f 10 = x := ⟨_, rfl⟩
  have f7 : NP x bx s x10 w := by rw [← g10, ← hf 10]; exact F 7 (by decide) 10 rfl
  have ha := Frames.frame (show a.tmps.size = 11 from hF.size) hF.defers hf (l := [f 0, f 1, f 2, f 3, f 4, f 5, f 6, f 7, f 8, f 9, f 10]) rfl
  simp only [g0, g1, g2, g3, g4, g5, g6, g7, g8, g9, g10] at ha
  clear F hF hf g0 g1 g2 g3 g4 g5 g6 g7 g8 g9 g10
  subst ha
  have hJ1 := hJ
  obtain ⟨jj, jk, jz, jl⟩ := hJ1
  obtain ⟨b, rfl, hb, hat⟩ := f7
  clear hJ f6
  obtain ⟨z0, z1, z2, z3, z4⟩ := five jk
  have y0 := At.frozen jk 0
  have y1 := At.frozen jk 1
  have y2 := At.frozen jk 2
  have y3 := At.frozen jk 3
  have y4 := At.frozen jk 4
  go_simp
  refine hK _ _ ?_
  clear hK
  go_wp2_with fail
  have hne : b ≠ bx + 1 := by
   intro hq
   rw [hq] at hat
   have := (show w.heap[bx + 1]? = _ from hat).symm.trans jk
   injection this with this
   injection this with h1 h2
   exact absurd h2 (by decide)
  refine bodyPost_ret (results_cell_row rfl _ _ (bx + 1) 69 _ (0, 0) _ rfl (set5 jk rfl _ _ _ _ _) Tryz.underlying69 rfl (by kernel_rfl)) rfl ?_
  exact ⟨b, rfl, hb, at_far (at_far (at_far (at_far (at_far hat hne _) hne _) hne _) hne _) hne _, below5 jz (by omega) _ _ _ _ _⟩
 ·intro hq; exact absurd hq (by decide +kernel)
end Go.Proofs.YtpidnkfcccboaaaGreat.SuperPageOf
namespace Go.Proofs.YtpidnkfcccboaaaGreat.SuperPut
open Go.RowKit Base SumPlain SumMem SumFill SumOf PagePlain PageSmall PageBytes PageLay PagePut PageCut PageTold2 PageAwake PageGet PageFour SuperPlain SuperRefCheck SuperSpec SuperCode SuperCellOf SuperPageOf

theorem on_below {g : Nat} {n : Int} {W w w' : World} (h : On g n W w) (hb : Below w.heap.size w w') : On g n W w' := by
 obtain ⟨⟨n', a, b, hr⟩, ho⟩ := h
 exact ⟨⟨n', a, b, Ready.below hr hb⟩, ho.trans (Only.ofBelow hb)⟩
theorem on_start {g : Nat} {n : Int} {W w : World} (h : Ready W g n) (hb : Below W.heap.size W w) : On g n W w :=
 ⟨⟨n, by omega, by omega, Ready.below h hb⟩, Only.ofBelow hb⟩
set_option maxRecDepth 100000 in
set_option maxHeartbeats 6400000 in
theorem put_any (g : Nat) (n : Int) (W : World) (x : Sp) (h : Ready W g n) (h0 : 0 ≤ n) (hn : n ≤ 800000000) : Calls Tryz.prog 117 #[.pointer (some ⟨g, 0, none⟩), sv x] W fun e w' => On g n W w' ∧
  ((Ok x ∧ ∃ b t, e = .returned (.tuple #[.slice (some ⟨b, 0, none⟩) 256 256, .int .i64 (x.ep % 2), .int .i64 0]) ∧ W.heap.size ≤ b ∧ Arr w' b t (sbytes x)) ∨ (¬ Ok x ∧ e = .returned (.tuple #[.slice none 0 0, .int .i64 0, .int .i64 70]))) := by
 have hg := Ready.lt h
 have b1 := bs_new W x
 have hb1 := al W (.cells #[.int .i64 x.ep, .int .i64 x.root, .int .i64 x.free, .int .i64 x.pages] 29)
 obtain ⟨w1, hw1⟩ : ∃ v, v = W.alloc (.cells #[.int .i64 x.ep, .int .i64 x.root, .int .i64 x.free, .int .i64 x.pages] 29) := ⟨_, rfl⟩
 rw [← hw1] at b1 hb1
 have hlt := b1.lt
 have HW := Lib.hid hw1
 clear hw1
 have hck := check_any w1 x
 obtain ⟨c0, c1, c2, c3⟩ := b1.cells
 by_cases hok : Ok x
 ·rw [decide_eq_true hok] at hck
  have em : x.ep.tmod 2 = x.ep % 2 := Int.tmod_eq_emod_of_nonneg hok.1
  have HO := Lib.hid hok
  have HEM := Lib.hid em
  clear hok em
  generalize hbx : W.heap.size = bx at *
  have HX := Lib.hid hbx
  go_enter Tryz.func117, Tryz.ntmps117
  go_upto_region 1 with fail
  try rw [← HW.out]
  try rw [hbx]
  clear hbx
  go_wp2_with fail
  (with_reducible refine hck.mono ?_)
  clear hck c0 c1 c2 c3
  rintro e w2 ⟨rfl, hb2⟩
  have b2 := b1.below hb2
  have hb12 := hb1.trans (hb2.mono (Nat.le_of_lt hlt))
  have hlt2 := b2.lt
  clear b1 hb2 hb1 hlt
  obtain ⟨c0, c1, c2, c3⟩ := b2.cells
  have hof := of_any w2 x HO.out
  go_wp2_with fail
  (with_reducible refine hof.mono ?_)
  clear hof c0 c1 c2 c3
  rintro e w3 ⟨b, rfl, hbb, hat, hb3⟩
  have b3 := b2.below hb3
  have hbW2 : Below W.heap.size W w2 := by rw [HX.out]; exact hb12
  have o3 : Only g W w3 := (Only.ofBelow hbW2).trans (Only.ofBelow hb3)
  have hr3 : Ready w3 g n := Ready.below (Ready.below h hbW2) hb3
  have hbg : b ≠ g := by omega
  have hput := put_good g n w3 (pg x) (some ⟨b, 0, none⟩) 1 hr3 h0 (by omega) (at_rowX hat hbg) (by show 1 ≤ 1000; omega) (by intro q hq; simp only [pg, List.mem_singleton] at hq; rw [hq, cell_size]; omega) (pg_err HO.out)
  have hxg : bx ≠ g := by have := HX.out; omega
  clear b2 hb3 hb12 hbW2 hlt2 hat hbb hr3
  go_wp2_with fail
  (with_reducible refine hput.mono ?_)
  clear hput
  rintro e w4 ⟨b', rfl, hb', ha4, hr4, o4⟩
  have b4 := b3.only o4 hxg
  have o34 := o3.trans o4
  have hsl := slot_any w4 x
  rw [HEM.out] at hsl
  have hbW' : W.heap.size ≤ b' := Nat.le_trans o3.size hb'
  clear b3 o3 o4 hb' hbg hg h
  obtain ⟨c0, c1, c2, c3⟩ := b4.cells
  go_wp2_with fail
  (with_reducible refine hsl.mono ?_)
  clear hsl c0 c1 c2 c3
  rintro e w5 ⟨rfl, hb5⟩
  go_wp2_with fail
  go_ret3
  exact ⟨on_below ⟨⟨n + 252, by omega, by omega, hr4⟩, o34⟩ hb5, Or.inl ⟨HO.out, b', _, rfl, by have := HX.out; omega, ha4.below hb5⟩⟩
 ·rw [decide_eq_false hok] at hck
  have HO := Lib.hid hok
  clear hok
  generalize hbx : W.heap.size = bx at *
  go_enter Tryz.func117, Tryz.ntmps117
  go_upto_region 1 with fail
  try rw [← HW.out]
  try rw [hbx]
  have HX := Lib.hid hbx
  clear hbx
  go_wp2_with fail
  (with_reducible refine hck.mono ?_)
  clear hck c0 c1 c2 c3
  rintro e w2 ⟨rfl, hb2⟩
  go_wp2_with fail
  go_ret3
  refine ⟨on_start h (w := w2) ?_, Or.inr ⟨HO.out, rfl⟩⟩
  rw [HX.out]
  exact hb1.trans (hb2.mono (Nat.le_of_lt hlt))
end Go.Proofs.YtpidnkfcccboaaaGreat.SuperPut
