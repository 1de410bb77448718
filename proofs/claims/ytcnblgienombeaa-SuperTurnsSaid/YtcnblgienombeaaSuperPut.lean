/- The contract of super.Put: a super's bytes and its slot, or the error of a super that may not be. -/
import Derived.Test.YtcnblgienombeaaSuperPageOf
import Derived.OwnWalk
namespace Go.Proofs.Ytcnblgienombeaa.SuperPut
open Go.RowKit Base SumPlain SumMem SumFill SumOf PagePlain PageSmall PageBytes PageLay PagePut PageCut PageTold2 PageAwake PageGet PageFour SuperPlain SuperRefCheck SuperSpec SuperCode SuperCellOf SuperPageOf

theorem on_below {g : Nat} {n : Int} {W w w' : World} (h : On g n W w) (hb : Below w.heap.size w w') : On g n W w' := by
  obtain ⟨⟨n', a, b, hr⟩, ho⟩ := h
  exact ⟨⟨n', a, b, Ready.below hr hb⟩, ho.trans (Only.ofBelow hb)⟩
theorem on_start {g : Nat} {n : Int} {W w : World} (h : Ready W g n) (hb : Below W.heap.size W w) : On g n W w :=
  ⟨⟨n, by omega, by omega, Ready.below h hb⟩, Only.ofBelow hb⟩
theorem only_first {g : Nat} {W w w' : World} (hb : Below W.heap.size W w) (ho : Only g w w') : Only g W w' := (Only.ofBelow hb).trans ho
set_option maxRecDepth 100000 in
set_option maxHeartbeats 6400000 in
theorem put_any (g : Nat) (n : Int) (W : World) (x : Sp) (h : Ready W g n) (h0 : 0 ≤ n) (hn : n ≤ 800000000) : Calls Try.prog 10 #[.pointer (some ⟨g, 0, none⟩), sv x] W fun e w' => On g n W w' ∧
    ((Ok x ∧ ∃ b t, e = .returned (.tuple #[.slice (some ⟨b, 0, none⟩) 256 256, .int .i64 (x.ep % 2), .int .i64 0]) ∧ W.heap.size ≤ b ∧ Arr w' b t (sbytes x)) ∨ (¬ Ok x ∧ e = .returned (.tuple #[.slice none 0 0, .int .i64 0, .int .i64 70]))) := by
  have hg := Ready.lt h
  have b1 := bs_new W x
  have hb1 := al W (.cells #[.int .i64 x.ep, .int .i64 x.root, .int .i64 x.free, .int .i64 x.pages] 23)
  obtain ⟨w1, hw1⟩ : ∃ v, v = W.alloc (.cells #[.int .i64 x.ep, .int .i64 x.root, .int .i64 x.free, .int .i64 x.pages] 23) := ⟨_, rfl⟩
  rw [← hw1] at b1 hb1
  have hlt := b1.lt
  have HW := Lib.hid hw1
  clear hw1
  have hck := check_any w1 x
  obtain ⟨c0, c1, c2, c3⟩ := b1.cells
  by_cases hok : Ok x
  · rw [decide_eq_true hok] at hck
    have em : x.ep.tmod 2 = x.ep % 2 := Int.tmod_eq_emod_of_nonneg hok.1
    have HO := Lib.hid hok
    have HEM := Lib.hid em
    clear hok em
    generalize hbx : W.heap.size = bx at *
    have HX := Lib.hid hbx
    go_enter Try.func10, Try.ntmps10
    go_upto_region 1 with fail
    try rw [← HW.out]
    try rw [hbx]
    clear hbx
    go_wp2_with fail
    (with_reducible refine hck.mono ?_)
    clear hck c0 c1 c2 c3
    rintro e w2 ⟨rfl, hb2⟩
    have b2 := b1.below hb2
    have hb12 := hb1.trans (hb2.mono (Nat.le_of_lt hlt))
    have hlt2 := b2.lt
    clear b1 hb2 hb1 hlt
    obtain ⟨c0, c1, c2, c3⟩ := b2.cells
    have hof := of_any w2 x HO.out
    go_wp2_with fail
    (with_reducible refine hof.mono ?_)
    clear hof c0 c1 c2 c3
    rintro e w3 ⟨b, rfl, hbb, hat, hb3⟩
    have b3 := b2.below hb3
    have hbW2 : Below W.heap.size W w2 := by rw [HX.out]; exact hb12
    have o3 : Only g W w3 := (Only.ofBelow hbW2).trans (Only.ofBelow hb3)
    have hr3 : Ready w3 g n := Ready.below (Ready.below h hbW2) hb3
    have hbg : b ≠ g := by omega
    have hput := put_good g n w3 (pg x) (some ⟨b, 0, none⟩) 1 hr3 h0 (by omega) (at_rowX hat hbg) (by show 1 ≤ 1000; omega) (by intro q hq; simp only [pg, List.mem_singleton] at hq; rw [hq, cell_size]; omega) (pg_err HO.out)
    have hxg : bx ≠ g := by have := HX.out; omega
    clear b2 hb3 hb12 hbW2 hlt2 hat hbb hr3
    go_wp2_with fail
    (with_reducible refine hput.mono ?_)
    clear hput
    rintro e w4 ⟨b', rfl, hb', ha4, hr4, o4⟩
    have b4 := b3.only o4 hxg
    have o34 := o3.trans o4
    have hsl := slot_any w4 x
    rw [HEM.out] at hsl
    have hbW' : W.heap.size ≤ b' := Nat.le_trans o3.size hb'
    clear b3 o3 o4 hb' hbg hg h
    obtain ⟨c0, c1, c2, c3⟩ := b4.cells
    go_wp2_with fail
    (with_reducible refine hsl.mono ?_)
    clear hsl c0 c1 c2 c3
    rintro e w5 ⟨rfl, hb5⟩
    go_wp2_with fail
    go_ret3
    exact ⟨on_below ⟨⟨n + 252, by omega, by omega, hr4⟩, o34⟩ hb5, Or.inl ⟨HO.out, b', _, rfl, by have := HX.out; omega, ha4.below hb5⟩⟩
  · rw [decide_eq_false hok] at hck
    have HO := Lib.hid hok
    clear hok
    generalize hbx : W.heap.size = bx at *
    go_enter Try.func10, Try.ntmps10
    go_upto_region 1 with fail
    try rw [← HW.out]
    try rw [hbx]
    have HX := Lib.hid hbx
    clear hbx
    go_wp2_with fail
    (with_reducible refine hck.mono ?_)
    clear hck c0 c1 c2 c3
    rintro e w2 ⟨rfl, hb2⟩
    go_wp2_with fail
    go_ret3
    refine ⟨on_start h (w := w2) ?_, Or.inr ⟨HO.out, rfl⟩⟩
    rw [HX.out]
    exact hb1.trans (hb2.mono (Nat.le_of_lt hlt))
end Go.Proofs.Ytcnblgienombeaa.SuperPut
