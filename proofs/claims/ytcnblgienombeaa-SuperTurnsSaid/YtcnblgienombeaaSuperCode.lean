/- The contracts of super's small functions: whether a super may be, its slot, the one behind it. -/
import Derived.Test.YtcnblgienombeaaSuperSpec
import Derived.BigGuard
import Derived.Deep.Cut
import Derived.Laws.ResultCell
import Derived.Laws.Rows
namespace Go.Proofs.Ytcnblgienombeaa.SuperCode
open Go.RowKit Base SumMem SumOf SuperPlain SuperRefCheck SuperSpec

/-- a super's box written whole -/
theorem bs_over {w : World} {b : Nat} {x : Sp} (h : Bs w b x) (n : Sp) : Bs ((((w.setCell ⟨b, 0, none⟩ (.int .i64 n.ep)).setCell ⟨b, 1, none⟩ (.int .i64 n.root)).setCell ⟨b, 2, none⟩ (.int .i64 n.free)).setCell ⟨b, 3, none⟩ (.int .i64 n.pages)) b n := by
  have hh : w.heap[b]? = some _ := h
  show _ = _
  simp [World.setCell, Array.getElem?_modify, hh]
theorem below_over {W w : World} {b : Nat} {B : Nat} (h : Below B W w) (hb : B ≤ b) (n : Sp) : Below B W ((((w.setCell ⟨b, 0, none⟩ (.int .i64 n.ep)).setCell ⟨b, 1, none⟩ (.int .i64 n.root)).setCell ⟨b, 2, none⟩ (.int .i64 n.free)).setCell ⟨b, 3, none⟩ (.int .i64 n.pages)) :=
  (((h.setCell hb _).setCell hb _).setCell hb _).setCell hb _
def Lead (n p : Int) : Prop := n = 0 ∨ 2 ≤ n ∧ n < p
instance (n p : Int) : Decidable (Lead n p) := by unfold Lead; infer_instance
set_option maxRecDepth 100000 in
theorem lead_any (W : World) (n p : Int) : Calls Try.prog 21 #[.int .i64 n, .int .i64 p] W fun e w' => e = .returned (.bool (decide (Lead n p))) ∧ Below W.heap.size W w' := by
  go_enter Try.func21, Try.ntmps21
  go_wp2
  all_goals (go_ret; first | exact ⟨ret_bool (decide_eq_true (by unfold Lead; omega)).symm, Below.refl _ _⟩ | exact ⟨ret_bool (decide_eq_false (by unfold Lead; omega)).symm, Below.refl _ _⟩ | exact ⟨ret_bool (by rw [Bool.eq_iff_iff, decide_eq_true_iff]; unfold Lead; simp only [Bool.or_eq_true, beq_iff_eq, decide_eq_true_eq]; omega), Below.refl _ _⟩)
set_option maxRecDepth 100000 in
theorem slot_any (W : World) (x : Sp) : Calls Try.prog 20 #[sv x] W fun e w' => e = .returned (.int .i64 (x.ep.tmod 2)) ∧ Below W.heap.size W w' := by
  obtain ⟨ep, root, free, pages⟩ := x
  go_enter Try.func20, Try.ntmps20
  go_wp2
  go_ret
  exact ⟨rfl, al _ _⟩
set_option maxRecDepth 100000 in
set_option maxHeartbeats 3200000 in
theorem next_any (W : World) (x : Sp) (r f p : Int) (h0 : 0 ≤ x.ep) (h1 : x.ep ≤ 4294967295) : Calls Try.prog 17 #[sv x, .int .i64 r, .int .i64 f, .int .i64 p] W fun e w' => e = .returned (sv (next x r f p)) ∧ Below W.heap.size W w' := by
  obtain ⟨ep, root, free, pages⟩ := x
  simp only at h0 h1
  have hw : IntKind.i64.wrap (ep + 1) = ep + 1 := IntWalk.i64_in _ (by omega)
  have h2 : Bs ((W.alloc (.cells #[.int .i64 ep, .int .i64 root, .int .i64 free, .int .i64 pages] 23)).alloc (.cells #[.int .i64 (ep + 1), .int .i64 r, .int .i64 f, .int .i64 p] 23)) (W.heap.size + 1) ⟨ep + 1, r, f, p⟩ := by
    have h := bs_new (W.alloc (.cells #[.int .i64 ep, .int .i64 root, .int .i64 free, .int .i64 pages] 23)) ⟨ep + 1, r, f, p⟩
    rw [show (W.alloc (.cells #[.int .i64 ep, .int .i64 root, .int .i64 free, .int .i64 pages] 23)).heap.size = W.heap.size + 1 from Array.size_push _] at h
    exact h
  have HA := Lib.hid h2
  have HB := Lib.hid (show Below W.heap.size W ((W.alloc (.cells #[.int .i64 ep, .int .i64 root, .int .i64 free, .int .i64 pages] 23)).alloc (.cells #[.int .i64 (ep + 1), .int .i64 r, .int .i64 f, .int .i64 p] 23)) from Below.step (al _ _) (al _ _))
  clear h2
  go_enter Try.func17, Try.ntmps17
  go_wp2
  refine bodyPost_ret (results_cell_row rfl _ _ (W.heap.size + 1) 23 _ (0, 0) _ rfl HA.out Try.underlying23 rfl (by kernel_rfl)) rfl ?_
  exact ⟨rfl, HB.out⟩
set_option maxRecDepth 100000 in
set_option maxHeartbeats 6400000 in
theorem check_any (W : World) (x : Sp) : Calls Try.prog 12 #[sv x] W fun e w' => e = .returned (.bool (decide (Ok x))) ∧ Below W.heap.size W w' := by
  have hok : Ok x ↔ 0 ≤ x.ep ∧ x.ep ≤ 4294967295 ∧ 2 ≤ x.pages ∧ x.pages ≤ 4096 ∧ Lead x.root x.pages ∧ Lead x.free x.pages := Iff.rfl
  obtain ⟨o, ho⟩ : ∃ o, decide (Ok x) = o := ⟨_, rfl⟩
  rw [ho]
  have HO := Lib.hid (And.intro ho hok)
  clear ho hok
  have b1 := bs_new W x
  have hb1 := al W (.cells #[.int .i64 x.ep, .int .i64 x.root, .int .i64 x.free, .int .i64 x.pages] 23)
  obtain ⟨w1, hw1⟩ : ∃ v, v = W.alloc (.cells #[.int .i64 x.ep, .int .i64 x.root, .int .i64 x.free, .int .i64 x.pages] 23) := ⟨_, rfl⟩
  rw [← hw1] at b1 hb1
  obtain ⟨c0, c1, c2, c3⟩ := b1.cells
  have HW := Lib.hid hw1
  clear hw1
  have hl1 := lead_any w1 x.root x.pages
  have hlt := b1.lt
  generalize hbx : W.heap.size = bx at *
  go_enter Try.func12, Try.ntmps12
  go_upto_region 1 with fail
  try rw [← HW.out]
  try rw [hbx]
  go_wp2_with fail
  all_goals (first | (go_ret; first | exact ⟨ret_bool (HO.out.1.symm.trans (decide_eq_false (by rw [HO.out.2]; omega))).symm, hb1⟩ | done) | skip)
  (with_reducible refine hl1.mono ?_)
  rintro e w2 ⟨rfl, hb2⟩
  clear c0 c1 c2 c3 hl1
  have b2 := b1.below hb2
  obtain ⟨c0, c1, c2, c3⟩ := b2.cells
  have hl2 := lead_any w2 x.free x.pages
  have HB2 := Lib.hid (hb1.trans (hb2.mono (Nat.le_of_lt hlt)))
  have hlt2 := b2.lt
  clear b1 b2 hb1 hb2
  by_cases h5 : Lead x.root x.pages
  · rw [decide_eq_true h5]
    go_wp2_with fail
    (with_reducible refine hl2.mono ?_)
    rintro e w3 ⟨rfl, hb3⟩
    go_wp2_with fail
    go_ret
    exact ⟨ret_bool (HO.out.1.symm.trans (by rw [decide_eq_decide, HO.out.2]; simp only [*, true_and])).symm, HB2.out.trans (hb3.mono (Nat.le_of_lt hlt2))⟩
  · rw [decide_eq_false h5]
    go_wp2_with fail
    go_ret
    exact ⟨ret_bool (HO.out.1.symm.trans (decide_eq_false (by rw [HO.out.2]; exact fun h => h5 h.2.2.2.2.1))).symm, HB2.out⟩
end Go.Proofs.Ytcnblgienombeaa.SuperCode
