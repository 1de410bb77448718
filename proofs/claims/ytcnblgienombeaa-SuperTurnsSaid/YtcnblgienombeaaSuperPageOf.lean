/- The contract of pageOf: the page of a super that may be. -/
import Derived.Test.YtcnblgienombeaaSuperTold
import Derived.Test.YtcnblgienombeaaInv2
import Derived.Test.YtcnblgienombeaaFrames
namespace Go.Proofs.Ytcnblgienombeaa.SuperPageOf
open Go.RowKit Base SumPlain SumMem SumFill SumOf PagePlain PageSmall PageBytes PageLay PageCut PageTold2 PageAwake PageGet SuperPlain SuperRefCheck SuperSpec SuperCode SuperCellOf

abbrev ZPg : Obj := .cells #[.int .i64 0, .int .i64 0, .int .i64 0, .int .i64 0, .slice none 0 0] 37
/-- the super's box, and the result's -/
structure PwB (W : World) (x : Sp) (bx : Nat) (w : World) : Prop where
  b : Bs w bx x
  z : At w (bx + 1) 37 #[.int .i64 0, .int .i64 0, .int .i64 0, .int .i64 0, .slice none 0 0]
  base : Below bx W w
  lo : bx ≤ w.heap.size
theorem PwB.below {W w w' : World} {x : Sp} {bx : Nat} (h : PwB W x bx w) (hb : Below w.heap.size w w') : PwB W x bx w' :=
  ⟨h.b.below hb, at_below h.z hb, h.base.trans (hb.mono h.lo), Nat.le_trans h.lo hb.size⟩
theorem pw_new (W : World) (x : Sp) : PwB W x W.heap.size ((W.alloc (.cells #[.int .i64 x.ep, .int .i64 x.root, .int .i64 x.free, .int .i64 x.pages] 23)).alloc ZPg) := by
  refine ⟨?_, ?_, Below.step (al _ _) (al _ _), (Below.step (al _ _) (al _ _)).size⟩
  · exact (bs_new W x).below (al _ _)
  · have h := heap_alloc_new (W.alloc (.cells #[.int .i64 x.ep, .int .i64 x.root, .int .i64 x.free, .int .i64 x.pages] 23)) ZPg
    rw [show (W.alloc _).heap.size = W.heap.size + 1 from Array.size_push _] at h
    exact h
/-- one text in a block of its own -/
def NS (n0 : Nat) (s : ByteArray) (v : Value) (w : World) : Prop := ∃ b, v = .slice (some ⟨b, 0, none⟩) 1 1 ∧ n0 ≤ b ∧ At w b 9 #[.string s]
theorem NS.below {n0 : Nat} {s : ByteArray} {v : Value} {w w' : World} (h : NS n0 s v w) (hb : Below w.heap.size w w') : NS n0 s v w' := by
  obtain ⟨b, h1, h2, h3⟩ := h
  exact ⟨b, h1, h2, at_below h3 hb⟩
/-- the page's value with it -/
def NP (x : Sp) (n0 : Nat) (s : ByteArray) (v : Value) (w : World) : Prop := ∃ b, v = .agg #[.int .i64 9, .int .i64 (x.ep % 2), .int .i64 x.ep, .int .i64 0, .slice (some ⟨b, 0, none⟩) 1 1] ∧ n0 ≤ b ∧ At w b 9 #[.string s]
theorem NP.below {x : Sp} {n0 : Nat} {s : ByteArray} {v : Value} {w w' : World} (h : NP x n0 s v w) (hb : Below w.heap.size w w') : NP x n0 s v w' := by
  obtain ⟨b, h1, h2, h3⟩ := h
  exact ⟨b, h1, h2, at_below h3 hb⟩
theorem ns_new {n0 : Nat} (s : ByteArray) (w : World) (h : n0 ≤ w.heap.size) : NS n0 s (.slice (some ⟨w.heap.size, 0, none⟩) 1 1) (w.alloc (.cells #[.string s] 9)) := ⟨_, rfl, h, heap_alloc_new w _⟩
/-- what pageOf comes to -/
def OfPost (W : World) (x : Sp) (e : Ending) (w' : World) : Prop :=
  ∃ b, e = .returned (pv (pg x) (some ⟨b, 0, none⟩) 1) ∧ W.heap.size ≤ b ∧ At w' b 9 #[.string (cell x)] ∧ Below W.heap.size W w'
set_option maxRecDepth 100000 in
set_option maxHeartbeats 6400000 in
theorem of_any (W : World) (x : Sp) (hx : Ok x) : Calls Try.prog 19 #[sv x] W (OfPost W x) := by
  have h0 := hx.1
  have em : x.ep.tmod 2 = x.ep % 2 := Int.tmod_eq_emod_of_nonneg h0
  have HX := Lib.hid hx
  clear hx h0
  have p0 := pw_new W x
  obtain ⟨w1, hw1⟩ : ∃ v, v = ((W.alloc (.cells #[.int .i64 x.ep, .int .i64 x.root, .int .i64 x.free, .int .i64 x.pages] 23)).alloc ZPg) := ⟨_, rfl⟩
  rw [← hw1] at p0
  have HW := Lib.hid hw1
  clear hw1
  unfold OfPost
  show Calls _ _ _ _ fun e w' => ∃ b, e = .returned (.agg #[.int .i64 9, .int .i64 (x.ep % 2), .int .i64 x.ep, .int .i64 0, .slice (some ⟨b, 0, none⟩) 1 1]) ∧ W.heap.size ≤ b ∧ At w' b 9 #[.string (cell x)] ∧ Below W.heap.size W w'
  obtain ⟨s, hs⟩ : ∃ s, s = cell x := ⟨_, rfl⟩
  rw [← hs]
  have hcell : ∀ v, Calls Try.prog 33 #[sv x] v fun e w' => e = .returned (.string s) ∧ Below v.heap.size v w' := fun v => by rw [hs]; exact cell_any v x HX.out
  have HC := Lib.hid hcell
  clear hcell hs
  have HEM := Lib.hid em
  clear em
  generalize hbx : W.heap.size = bx at p0 ⊢
  go_enter Try.func19, Try.ntmps19
  go_upto_region 1 with fail
  try rw [← HW.out]
  try rw [hbx]
  have hJ0 := p0.below (Below.refl _ _).drew
  clear p0
  refine wp_region_any (by kernel_rfl) ?_
  change wpAny _ _ _ _ _ _ _ (World.drew _)
  refine Inv.inv_any (fun (i : Nat) (v : Value) (w : World) => match i with | 0 => v = .agg #[.int .i64 x.ep, .int .i64 x.root, .int .i64 x.free, .int .i64 x.pages] | 1 => v = .int .i64 (x.ep % 2) | 2 => v = .pointer (some ⟨bx, 0, none⟩) | 3 => v = .int .i64 x.ep | 4 => v = .agg #[.int .i64 x.ep, .int .i64 x.root, .int .i64 x.free, .int .i64 x.pages] | 5 => v = .string s | 6 => NS bx s v w | 7 => NP x bx s v w | _ => True) (fun w' : World => PwB W x bx w') _ 8 11 rfl rfl rfl (by kernel_rfl) (by kernel_rfl) hJ0 ?_ ?_ ?_ ?_
  · intro j v w w' h hb
    match j, h with
    | 0, h => exact h
    | 1, h => exact h
    | 2, h => exact h
    | 3, h => exact h
    | 4, h => exact h
    | 5, h => exact h
    | 6, h => exact NS.below h hb
    | 7, h => exact NP.below h hb
    | 8, _ => exact trivial
    | (_ + 9), _ => exact trivial
  · skip
    refine Inv.from_cons _ _ _ _ rfl (fun _ a w hJ hF F K hK => ?_) ?_
    · have hz : a.tmps.size = 11 := hF.size
      have e1 : a.tmps[1]? = some (.pointer (some ⟨bx, 0, none⟩)) := Inv2.some_slot (by rw [hz]; exact Nat.le_of_ble_eq_true rfl) (hF.slot 1 (by kernel_rfl))
      clear F hF hz
      have hJ1 := hJ
      obtain ⟨jj, jk, jz, jl⟩ := hJ1
      obtain ⟨d0, d1, d2, d3⟩ := jj.cells
      go_simp
      exact hK (.agg #[.int .i64 x.ep, .int .i64 x.root, .int .i64 x.free, .int .i64 x.pages]) _ hJ (Below.refl _ _) rfl
    refine Inv.from_cons _ _ _ _ rfl (fun _ a w hJ hF F K hK => ?_) ?_
    · have hz : a.tmps.size = 11 := hF.size
      have e3 : a.tmps[3]? = some (.agg #[.int .i64 x.ep, .int .i64 x.root, .int .i64 x.free, .int .i64 x.pages]) := Inv2.some_slot (by rw [hz]; exact Nat.le_of_ble_eq_true rfl) (F 0 (by kernel_rfl) 3 rfl)
      clear F hF hz
      have hJ1 := hJ
      obtain ⟨jj, jk, jz, jl⟩ := hJ1
      have hh := slot_any w x
      rw [HEM.out] at hh
      go_simp
      (with_reducible refine hh.mono ?_)
      rintro e' w' ⟨rfl, hb⟩
      go_simp
      exact hK _ _ (hJ.below hb) hb rfl
    refine Inv.from_cons _ _ _ _ rfl (fun _ a w hJ hF F K hK => ?_) ?_
    · have hz : a.tmps.size = 11 := hF.size
      have e1 : a.tmps[1]? = some (.pointer (some ⟨bx, 0, none⟩)) := Inv2.some_slot (by rw [hz]; exact Nat.le_of_ble_eq_true rfl) (hF.slot 1 (by kernel_rfl))
      clear F hF hz
      have hJ1 := hJ
      obtain ⟨jj, jk, jz, jl⟩ := hJ1
      go_simp
      exact hK (.pointer (some ⟨bx, 0, none⟩)) _ hJ (Below.refl _ _) rfl
    refine Inv.from_cons _ _ _ _ rfl (fun _ a w hJ hF F K hK => ?_) ?_
    · have hz : a.tmps.size = 11 := hF.size
      have e5 : a.tmps[5]? = some (.pointer (some ⟨bx, 0, none⟩)) := Inv2.some_slot (by rw [hz]; exact Nat.le_of_ble_eq_true rfl) (F 2 (by kernel_rfl) 5 rfl)
      clear F hF hz
      have hJ1 := hJ
      obtain ⟨jj, jk, jz, jl⟩ := hJ1
      obtain ⟨d0, d1, d2, d3⟩ := jj.cells
      go_simp
      exact hK (.int .i64 x.ep) _ hJ (Below.refl _ _) rfl
    refine Inv.from_cons _ _ _ _ rfl (fun _ a w hJ hF F K hK => ?_) ?_
    · have hz : a.tmps.size = 11 := hF.size
      have e1 : a.tmps[1]? = some (.pointer (some ⟨bx, 0, none⟩)) := Inv2.some_slot (by rw [hz]; exact Nat.le_of_ble_eq_true rfl) (hF.slot 1 (by kernel_rfl))
      clear F hF hz
      have hJ1 := hJ
      obtain ⟨jj, jk, jz, jl⟩ := hJ1
      obtain ⟨d0, d1, d2, d3⟩ := jj.cells
      go_simp
      exact hK (.agg #[.int .i64 x.ep, .int .i64 x.root, .int .i64 x.free, .int .i64 x.pages]) _ hJ (Below.refl _ _) rfl
    refine Inv.from_cons _ _ _ _ rfl (fun _ a w hJ hF F K hK => ?_) ?_
    · have hz : a.tmps.size = 11 := hF.size
      have e4 : a.tmps[4]? = some (.int .i64 (x.ep % 2)) := Inv2.some_slot (by rw [hz]; exact Nat.le_of_ble_eq_true rfl) (F 1 (by kernel_rfl) 4 rfl)
      have e7 : a.tmps[7]? = some (.agg #[.int .i64 x.ep, .int .i64 x.root, .int .i64 x.free, .int .i64 x.pages]) := Inv2.some_slot (by rw [hz]; exact Nat.le_of_ble_eq_true rfl) (F 4 (by kernel_rfl) 7 rfl)
      clear F hF hz
      have hJ1 := hJ
      obtain ⟨jj, jk, jz, jl⟩ := hJ1
      have hh := HC.out w
      go_simp
      (with_reducible refine hh.mono ?_)
      rintro e' w' ⟨rfl, hb⟩
      go_simp
      exact hK _ _ (hJ.below hb) hb rfl
    refine Inv.from_cons _ _ _ _ rfl (fun _ a w hJ hF F K hK => ?_) ?_
    · have hz : a.tmps.size = 11 := hF.size
      have e8 : a.tmps[8]? = some (.string s) := Inv2.some_slot (by rw [hz]; exact Nat.le_of_ble_eq_true rfl) (F 5 (by kernel_rfl) 8 rfl)
      clear F hF hz
      have hJ1 := hJ
      obtain ⟨jj, jk, jz, jl⟩ := hJ1
      go_simp
      exact hK _ _ (hJ.below (al' _ _)) (al' _ _) (ns_new s w jl)
    refine Inv.from_cons _ _ _ _ rfl (fun _ a w hJ hF F K hK => ?_) ?_
    · have hz : a.tmps.size = 11 := hF.size
      have e4 : a.tmps[4]? = some (.int .i64 (x.ep % 2)) := Inv2.some_slot (by rw [hz]; exact Nat.le_of_ble_eq_true rfl) (F 1 (by kernel_rfl) 4 rfl)
      have e6 : a.tmps[6]? = some (.int .i64 x.ep) := Inv2.some_slot (by rw [hz]; exact Nat.le_of_ble_eq_true rfl) (F 3 (by kernel_rfl) 6 rfl)
      obtain ⟨x9, e9, f6⟩ : ∃ x, a.tmps[9]? = some x ∧ NS bx s x w := ⟨_, Inv2.some_slot (by rw [hz]; exact Nat.le_of_ble_eq_true rfl) rfl, F 6 (by kernel_rfl) 9 rfl⟩
      clear F hF hz
      have hJ1 := hJ
      obtain ⟨jj, jk, jz, jl⟩ := hJ1
      obtain ⟨b, rfl, hb, hat⟩ := f6
      go_simp
      exact hK _ _ hJ (Below.refl _ _) ⟨b, rfl, hb, hat⟩
    refine Inv.from_skip _ _ _ _ rfl ?_
    exact Inv.from_end _ _ _ _ (by decide +kernel)
  · intro o ho a w hJ hF F K hK
    injection (show some _ = some o from ho) with ho
    subst ho
    obtain ⟨f, hf⟩ : ∃ f : Nat → Value, ∀ i, a.tmps.getD i undef = f i := ⟨_, fun _ => rfl⟩
    have g0 : f 0 = (sv x) := (hf 0).symm.trans (hF.slot 0 (by kernel_rfl))
    have g1 : f 1 = (.pointer (some ⟨bx, 0, none⟩)) := (hf 1).symm.trans (hF.slot 1 (by kernel_rfl))
    have g2 : f 2 = (.pointer (some ⟨(bx + 1), 0, none⟩)) := (hf 2).symm.trans (hF.slot 2 (by kernel_rfl))
    have g3 : f 3 = (.agg #[.int .i64 x.ep, .int .i64 x.root, .int .i64 x.free, .int .i64 x.pages]) := (hf 3).symm.trans (F 0 (by decide) 3 rfl)
    have g4 : f 4 = (.int .i64 (x.ep % 2)) := (hf 4).symm.trans (F 1 (by decide) 4 rfl)
    have g5 : f 5 = (.pointer (some ⟨bx, 0, none⟩)) := (hf 5).symm.trans (F 2 (by decide) 5 rfl)
    have g6 : f 6 = (.int .i64 x.ep) := (hf 6).symm.trans (F 3 (by decide) 6 rfl)
    have g7 : f 7 = (.agg #[.int .i64 x.ep, .int .i64 x.root, .int .i64 x.free, .int .i64 x.pages]) := (hf 7).symm.trans (F 4 (by decide) 7 rfl)
    have g8 : f 8 = (.string s) := (hf 8).symm.trans (F 5 (by decide) 8 rfl)
    obtain ⟨x9, g9⟩ : ∃ x, f 9 = x := ⟨_, rfl⟩
    have f6 : NS bx s x9 w := by rw [← g9, ← hf 9]; exact F 6 (by decide) 9 rfl
    obtain ⟨x10, g10⟩ : ∃ x, f 10 = x := ⟨_, rfl⟩
    have f7 : NP x bx s x10 w := by rw [← g10, ← hf 10]; exact F 7 (by decide) 10 rfl
    have ha := Frames.frame (show a.tmps.size = 11 from hF.size) hF.defers hf (l := [f 0, f 1, f 2, f 3, f 4, f 5, f 6, f 7, f 8, f 9, f 10]) rfl
    simp only [g0, g1, g2, g3, g4, g5, g6, g7, g8, g9, g10] at ha
    clear F hF hf g0 g1 g2 g3 g4 g5 g6 g7 g8 g9 g10
    subst ha
    have hJ1 := hJ
    obtain ⟨jj, jk, jz, jl⟩ := hJ1
    obtain ⟨b, rfl, hb, hat⟩ := f7
    clear hJ f6
    obtain ⟨z0, z1, z2, z3, z4⟩ := five jk
    have y0 := At.frozen jk 0
    have y1 := At.frozen jk 1
    have y2 := At.frozen jk 2
    have y3 := At.frozen jk 3
    have y4 := At.frozen jk 4
    go_simp
    refine hK _ _ ?_
    clear hK
    go_wp2_with fail
    have hne : b ≠ bx + 1 := by
      intro hq
      rw [hq] at hat
      have := (show w.heap[bx + 1]? = _ from hat).symm.trans jk
      injection this with this
      injection this with h1 h2
      exact absurd h2 (by decide)
    refine bodyPost_ret (results_cell_row rfl _ _ (bx + 1) 37 _ (0, 0) _ rfl (set5 jk rfl _ _ _ _ _) Try.underlying37 rfl (by kernel_rfl)) rfl ?_
    exact ⟨b, rfl, hb, at_far (at_far (at_far (at_far (at_far hat hne _) hne _) hne _) hne _) hne _, below5 jz (by omega) _ _ _ _ _⟩
  · intro hq; exact absurd hq (by decide +kernel)
end Go.Proofs.Ytcnblgienombeaa.SuperPageOf
