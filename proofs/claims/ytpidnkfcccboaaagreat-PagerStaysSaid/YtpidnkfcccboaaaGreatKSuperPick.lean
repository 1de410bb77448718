/- The contract of super.Pick: the newer one of two slots' supers, or the error where neither holds one. -/
import Derived.Test.YtpidnkfcccboaaaGreatKSuperGet
namespace Go.Proofs.YtpidnkfcccboaaaGreat.SuperPick
open Go.RowKit Base SumPlain SumMem SumFill SumOf PagePlain PageSmall PageBytes PageLay PagePut PageCut PageTold2 PageAwake PageGet PageFour SuperPlain SuperRefCheck SuperSpec SuperCode SuperPut SuperGet

theorem ans_form (s : Int) (l : List UInt8) : ∃ (y : Sp) (k : Int), ansOf (getS s l) = .tuple #[sv y, .int .i64 k] ∧ ((Ok y ∧ y.ep % 2 = s ∧ getS s l = .inr y) ∨ (y = zer ∧ ∃ j, getS s l = .inl j)) := by
 cases h : getS s l with
 | inl j => exact ⟨zer, j, rfl, Or.inr ⟨rfl, j, rfl⟩⟩
 | inr x => exact ⟨x, 0, rfl, Or.inl ⟨(getS_out h).1, (getS_out h).2.2, rfl⟩⟩
theorem on_set {g : Nat} {n : Int} {W w : World} (h : On g n W w) (p : Addr) (hp : W.heap.size ≤ p.block) (hg : g ≠ p.block) (u : Value) : On g n W (w.setCell p u) := by
 obtain ⟨⟨n', a, b, hr⟩, ho⟩ := h
 exact ⟨⟨n', a, b, ready_far hr p hg u⟩, only_set ho p hp u⟩
theorem on_over {g b : Nat} {n : Int} {W w : World} (h : On g n W w) (hp : W.heap.size ≤ b) (hg : b ≠ g) (x : Sp) : On g n W ((((w.setCell ⟨b, 0, none⟩ (.int .i64 x.ep)).setCell ⟨b, 1, none⟩ (.int .i64 x.root)).setCell ⟨b, 2, none⟩ (.int .i64 x.free)).setCell ⟨b, 3, none⟩ (.int .i64 x.pages)) :=
 on_set (on_set (on_set (on_set h _ hp hg.symm _) _ hp hg.symm _) _ hp hg.symm _) _ hp hg.symm _
theorem bs_far {w : World} {b c : Nat} {y : Sp} (h : Bs w c y) (hc : c ≠ b) (x : Sp) : Bs ((((w.setCell ⟨b, 0, none⟩ (.int .i64 x.ep)).setCell ⟨b, 1, none⟩ (.int .i64 x.root)).setCell ⟨b, 2, none⟩ (.int .i64 x.free)).setCell ⟨b, 3, none⟩ (.int .i64 x.pages)) c y :=
 (((h.far (p := ⟨b, 0, none⟩) hc _).far (p := ⟨b, 1, none⟩) hc _).far (p := ⟨b, 2, none⟩) hc _).far (p := ⟨b, 3, none⟩) hc _
theorem two_new (W : World) : Bs ((W.alloc (.cells #[.int .i64 0, .int .i64 0, .int .i64 0, .int .i64 0] 29)).alloc (.cells #[.int .i64 0, .int .i64 0, .int .i64 0, .int .i64 0] 29)) (W.heap.size + 1) zer := by
 have h := bs_new (W.alloc (.cells #[.int .i64 0, .int .i64 0, .int .i64 0, .int .i64 0] 29)) zer
 rw [show (W.alloc _).heap.size = W.heap.size + 1 from Array.size_push _] at h
 exact h
theorem sup_eq (x y : Sp) (w : World) : (binOp .eql 29 (.agg #[.int .i64 x.ep, .int .i64 x.root, .int .i64 x.free, .int .i64 x.pages]) (.agg #[.int .i64 y.ep, .int .i64 y.root, .int .i64 y.free, .int .i64 y.pages])).run Tryz.prog w = .ok (.bool (decide (x.ep = y.ep ∧ x.root = y.root ∧ x.free = y.free ∧ x.pages = y.pages))) w := by
 rw [run_eql_struct, show (10000 : Nat) = 9999 + 1 from rfl, run_equalIn_agg _ _ _ _ _ (by kernel_rfl) (by kernel_rfl)]
 by_cases h0 : x.ep = y.ep <;> by_cases h1 : x.root = y.root <;> by_cases h2 : x.free = y.free <;> by_cases h3 : x.pages = y.pages <;> simp [go_sem, *]
theorem ok_ne {x : Sp} (h : Ok x) (w : World) : (binOp .eql 29 (.agg #[.int .i64 x.ep, .int .i64 x.root, .int .i64 x.free, .int .i64 x.pages]) (.agg #[.int .i64 zer.ep, .int .i64 zer.root, .int .i64 zer.free, .int .i64 zer.pages])).run Tryz.prog w = .ok (.bool false) w := by
 rw [sup_eq, decide_eq_false (fun q => ?_)]
 have h1 := h.2.2.1
 rw [q.2.2.2] at h1
 exact absurd h1 (by decide)
theorem zer_eq (w : World) : (binOp .eql 29 (.agg #[.int .i64 zer.ep, .int .i64 zer.root, .int .i64 zer.free, .int .i64 zer.pages]) (.agg #[.int .i64 zer.ep, .int .i64 zer.root, .int .i64 zer.free, .int .i64 zer.pages])).run Tryz.prog w = .ok (.bool true) w := by
 rw [sup_eq, decide_eq_true ⟨rfl, rfl, rfl, rfl⟩]
set_option maxRecDepth 100000 in
set_option maxHeartbeats 12800000 in
theorem pick_any (g : Nat) (n : Int) (W : World) (ad bd : Addr) (c d : Nat) (l q : List UInt8) (h : Ready W g n) (h0 : 0 ≤ n) (hn : n ≤ 800000000) (hr : RowX W g (some ad) (bv l)) (hs : RowX W g (some bd) (bv q)) (hl : l.length = 256) (hq : q.length = 256) (hc : 256 ≤ c) (hd : 256 ≤ d) :
  Calls Tryz.prog 68 #[.pointer (some ⟨g, 0, none⟩), .slice (some ad) 256 c, .slice (some bd) 256 d] W fun e w' => e = .returned (ansOf (pickS l q)) ∧ On g n W w' := by
 have hg := Ready.lt h
 obtain ⟨av, hav⟩ : ∃ v, v = ansOf (pickS l q) := ⟨_, rfl⟩
 rw [← hav]
 have HA := Lib.hid hav
 clear hav
 obtain ⟨w1, hw1⟩ : ∃ v, v = (W.alloc (.cells #[.int .i64 0, .int .i64 0, .int .i64 0, .int .i64 0] 29)).alloc (.cells #[.int .i64 0, .int .i64 0, .int .i64 0, .int .i64 0] 29) := ⟨_, rfl⟩
 have m1 : Bs w1 (W.heap.size + 1) zer := by rw [hw1]; exact two_new W
 have x1 : Bs w1 W.heap.size zer := by rw [hw1]; exact (bs_new W zer).below (al _ _)
 have hb1 : Below W.heap.size W w1 := by rw [hw1]; exact Below.step (al _ _) (al _ _)
 have o1 : Only g W w1 := Only.ofBelow hb1
 have hget := get_any g n w1 0 ad c l (Ready.below h hb1) h0 (by omega) (hr.below hb1) hl hc
 have hs1 : RowX w1 g (some bd) (bv q) := hs.below hb1
 have hxg : W.heap.size ≠ g := by omega
 have hmg : W.heap.size + 1 ≠ g := by omega
 have HW := Lib.hid hw1
 obtain ⟨y, k, hy, hyc⟩ := ans_form 0 l
 rw [hy] at hget
 clear hw1 hr hl hc hg h hb1 hy hs
 generalize hbx : W.heap.size = bx at m1 x1 hxg hmg ⊢
 have HX := Lib.hid hbx
 have HY := Lib.hid hyc
 clear hyc
 go_enter Tryz.func68, Tryz.ntmps68
 go_upto_region 2 with fail
 try rw [← HW.out]
 try rw [hbx]
 clear hbx
 go_wp2_with fail
 (with_reducible refine hget.mono ?_)
 clear hget
 rintro e w2 ⟨rfl, ⟨n1, hn1, hn2, hr2⟩, o2⟩
 have x2 := x1.only o2 hxg
 have m2 := m1.only o2 hmg
 have hs2 := hs1.only o2
 have o2' := o1.trans o2
 have hlt2 := m2.lt
 clear x1 m1 hs1 o1 o2
 obtain ⟨w3, hw3⟩ : ∃ v, v = w2.alloc (.cells #[.int .i64 y.ep, .int .i64 y.root, .int .i64 y.free, .int .i64 y.pages] 29) := ⟨_, rfl⟩
 have hb3 : Below w2.heap.size w2 w3 := by rw [hw3]; exact al _ _
 have y3 : Bs w3 w2.heap.size y := by rw [hw3]; exact bs_new w2 y
 have x3 := x2.below hb3
 have m3 := m2.below hb3
 have o3 : Only g W w3 := o2'.trans (Only.ofBelow hb3)
 have hget := get_any g n1 w3 1 bd d q (Ready.below hr2 hb3) (by omega) (by omega) (hs2.below hb3) hq hd
 obtain ⟨z, k', hz, hzc⟩ := ans_form 1 q
 rw [hz] at hget
 have HZ := Lib.hid hzc
 have hyg : w2.heap.size ≠ g := by have := Ready.lt hr2; omega
 have HW3 := Lib.hid hw3
 clear hw3 x2 m2 o2' hb3 hs2 hr2 hq hd hz hzc
 generalize hby : w2.heap.size = b9 at y3 hyg hlt2 ⊢
 go_upto_region 3 with fail
 try rw [← HW3.out]
 try rw [hby]
 clear hby
 go_wp2_with fail
 (with_reducible refine hget.mono ?_)
 clear hget
 rintro e w4 ⟨rfl, ⟨n2, hn3, hn4, hr4⟩, o4⟩
 have x4 := x3.only o4 hxg
 have m4 := m3.only o4 hmg
 have y4 := y3.only o4 hyg
 have on4 : On g n W w4 := ⟨⟨n2, by omega, by omega, hr4⟩, o3.trans o4⟩
 have hlt4 := y4.lt
 clear x3 m3 y3 o3 o4 hn1 hn2 hn3 hn4 hn h0 hr4
 obtain ⟨w5, hw5⟩ : ∃ v, v = w4.alloc (.cells #[.int .i64 z.ep, .int .i64 z.root, .int .i64 z.free, .int .i64 z.pages] 29) := ⟨_, rfl⟩
 have hb5 : Below w4.heap.size w4 w5 := by rw [hw5]; exact al _ _
 have z5 : Bs w5 w4.heap.size z := by rw [hw5]; exact bs_new w4 z
 have x5 := x4.below hb5
 have m5 := m4.below hb5
 have y5 := y4.below hb5
 have on5 := on_below on4 hb5
 have HW5 := Lib.hid hw5
 clear hw5 x4 m4 y4 on4 hb5
 generalize hbz : w4.heap.size = b11 at z5 hlt4 ⊢
 go_upto_region 4 with fail
 try rw [← HW5.out]
 try rw [hbz]
 clear hbz
 have hb9 : W.heap.size ≤ b9 := by have := HX.out; omega
 have h9x : bx ≠ b9 := by omega
 have h9m : bx + 1 ≠ b9 := by omega
 obtain ⟨x50, x51, x52, x53⟩ := x5.cells
 obtain ⟨m50, m51, m52, m53⟩ := m5.cells
 obtain ⟨y50, y51, y52, y53⟩ := y5.cells
 obtain ⟨z50, z51, z52, z53⟩ := z5.cells
 obtain ⟨wB, hwB⟩ : ∃ v, v = ((((w5.setCell ⟨b9, 0, none⟩ (.int .i64 z.ep)).setCell ⟨b9, 1, none⟩ (.int .i64 z.root)).setCell ⟨b9, 2, none⟩ (.int .i64 z.free)).setCell ⟨b9, 3, none⟩ (.int .i64 z.pages)) := ⟨_, rfl⟩
 have yB : Bs wB b9 z := by rw [hwB]; exact bs_over y5 z
 have xB : Bs wB bx zer := by rw [hwB]; exact bs_far x5 h9x z
 have mB : Bs wB (bx + 1) zer := by rw [hwB]; exact bs_far m5 h9m z
 have onB : On g n W wB := by rw [hwB]; exact on_over on5 hb9 hyg z
 have HWB := Lib.hid hwB
 clear hwB
 have f0 := At.frozen y5 0
 have f1 := At.frozen y5 1
 have f2 := At.frozen y5 2
 have f3 := At.frozen y5 3
 have z0 := At.frozen x5 0
 have z1 := At.frozen x5 1
 have z2 := At.frozen x5 2
 have z3 := At.frozen x5 3
 obtain ⟨xB0, xB1, xB2, xB3⟩ := xB.cells
 obtain ⟨mB0, mB1, mB2, mB3⟩ := mB.cells
 obtain ⟨yB0, yB1, yB2, yB3⟩ := yB.cells
 have v0 := At.frozen xB 0
 have v1 := At.frozen xB 1
 have v2 := At.frozen xB 2
 have v3 := At.frozen xB 3
 rcases HY.out with ⟨hoy, hey, hgy⟩ | ⟨rfl, j0, hgy⟩
 ·have hcmp := ok_ne hoy
  by_cases hlt : y.ep < z.ep
  ·rcases HZ.out with ⟨hoz, hez, hgz⟩ | ⟨rfl, j1, hgz⟩
   rotate_left
   ·exact absurd hlt (by have := hoy.1; show ¬ y.ep < 0; omega)
   have HG := Lib.hid (show pickS l q = .inr z by unfold pickS; rw [hgy, hgz]; simp only; rw [if_neg (by omega)])
   have HC := Lib.hid (ok_ne hoz)
   clear hoy hey hgy hoz hez hgz HY HZ
   go_upto_region 6 with fail
   rw [← HWB.out]
   have hcmp := HC.out
   go_wp2_with fail
   refine bodyPost_ret (results_cell_tmp_row rfl _ _ bx 29 _ (0, 0) _ rfl (bs_over xB z) Tryz.underlying29 rfl (by kernel_rfl)) rfl ?_
   exact ⟨by rw [HA.out, HG.out]; rfl, on_over onB (Nat.le_of_eq HX.out) hxg z⟩
  ·have HG := Lib.hid (show pickS l q = .inr y by
    unfold pickS
    rcases HZ.out with ⟨hoz, hez, hgz⟩ | ⟨_, j1, hgz⟩
    ·rw [hgy, hgz]; simp only; rw [if_pos (by omega)]
    ·rw [hgy, hgz])
   clear hoy hey hgy HY HZ
   go_wp2_with fail
   refine bodyPost_ret (results_cell_tmp_row rfl _ _ bx 29 _ (0, 0) _ rfl (bs_over x5 y) Tryz.underlying29 rfl (by kernel_rfl)) rfl ?_
   exact ⟨by rw [HA.out, HG.out]; rfl, on_over on5 (Nat.le_of_eq HX.out) hxg y⟩
 ·have hcmp := zer_eq
  rcases HZ.out with ⟨hoz, hez, hgz⟩ | ⟨rfl, j1, hgz⟩
  ·have HG := Lib.hid (show pickS l q = .inr z by unfold pickS; rw [hgy, hgz])
   have HC := Lib.hid (ok_ne hoz)
   clear hgy hoz hez hgz HY HZ
   go_upto_region 6 with fail
   rw [← HWB.out]
   have hcmp := HC.out
   go_wp2_with fail
   refine bodyPost_ret (results_cell_tmp_row rfl _ _ bx 29 _ (0, 0) _ rfl (bs_over xB z) Tryz.underlying29 rfl (by kernel_rfl)) rfl ?_
   exact ⟨by rw [HA.out, HG.out]; rfl, on_over onB (Nat.le_of_eq HX.out) hxg z⟩
  ·have HG := Lib.hid (show pickS l q = .inl 70 by unfold pickS; rw [hgy, hgz])
   clear hgy hgz HY HZ
   go_upto_region 6 with fail
   rw [← HWB.out]
   go_wp2_with fail
   refine bodyPost_ret (results_cell_tmp_row rfl _ _ bx 29 _ (0, 0) _ rfl (bs_over xB zer) Tryz.underlying29 rfl (by kernel_rfl)) rfl ?_
   exact ⟨by rw [HA.out, HG.out]; rfl, on_over onB (Nat.le_of_eq HX.out) hxg zer⟩
end Go.Proofs.YtpidnkfcccboaaaGreat.SuperPick
