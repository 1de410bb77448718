/- Whether a filter means a tuple: the code's closures. -/
import Derived.Test.YtilcnhdfdgmekaaGreatKFactsSort
namespace Go.Proofs.YtilcnhdfdgmekaaGreat.FactsMeant
open Go.RowKit Base KeyPlain TuplePlain TupleRef TupleSpec TupleCut FMap FactsPlain FactsMem FactsNew

theorem told_parts (a b : ByteArray) : ∃ x y : Bool, a.toList.isEmpty = x ∧ (a.toList == b.toList) = y ∧ told a b = (x || y) := by
  refine ⟨_, _, rfl, rfl, ?_⟩
  have h1 : a.toList.isEmpty = decide (a.size = 0) := by
    rw [ByteArray.toList_eq]
    rw [Bool.eq_iff_iff, List.isEmpty_iff, decide_eq_true_eq, ← List.length_eq_zero_iff]
    simp
  rw [h1, ba_beq]
  rfl
set_option maxHeartbeats 3200000 in
theorem is_any (a b : ByteArray) (w : World) :
    Calls Tryz.prog 60 #[.string a, .string b] w fun e w' => e = .returned (.bool (told a b)) ∧ w' = w := by
  obtain ⟨x, y, hx, hy, hz⟩ := told_parts a b
  have HZ := Lib.hid hz
  clear hz
  cases x <;> cases y
  all_goals
    go_enter Tryz.func60, Tryz.ntmps60
    go_wp2_with fail
    go_ret
    exact ⟨ret_bool HZ.out.symm, rfl⟩
/-- what a filter's closures hold: the box of 'is', the box of the filter -/
structure Mn (w : World) (bi bf : Nat) (x : Tp) : Prop where
  i : w.heap[bi]? = some (.cells #[.func (.func 60) #[] #[]] 95 (0, 0))
  f : w.heap[bf]? = some (.cells (tc x) 43 (0, 0))
theorem Mn.lt {w : World} {bi bf : Nat} {x : Tp} (h : Mn w bi bf x) : bi < w.heap.size ∧ bf < w.heap.size := ⟨(Array.getElem?_eq_some_iff.1 h.i).1, (Array.getElem?_eq_some_iff.1 h.f).1⟩
theorem Mn.same {w w' : World} {bi bf : Nat} {x : Tp} (h : Mn w bi bf x) (h1 : w'.heap[bi]? = w.heap[bi]?) (h2 : w'.heap[bf]? = w.heap[bf]?) : Mn w' bi bf x := ⟨h1.trans h.i, h2.trans h.f⟩
theorem Mn.below {w w' : World} {bi bf : Nat} {x : Tp} (h : Mn w bi bf x) (hb : Below w.heap.size w w') : Mn w' bi bf x := h.same (hb.block _ h.lt.1) (hb.block _ h.lt.2)
theorem Mn.cells {w : World} {bi bf : Nat} {x : Tp} (h : Mn w bi bf x) : w.cell? ⟨bi, 0, none⟩ = some (.func (.func 60) #[] #[]) ∧ w.cell? ⟨bf, 0, none⟩ = some (.string x.k) ∧ w.cell? ⟨bf, 1, none⟩ = some (.string x.i) ∧ w.cell? ⟨bf, 2, none⟩ = some (.string x.r) ∧ w.cell? ⟨bf, 3, none⟩ = some (.string x.u.k) ∧ w.cell? ⟨bf, 4, none⟩ = some (.string x.u.i) ∧ w.cell? ⟨bf, 5, none⟩ = some (.string x.u.r) := by
  refine ⟨?_, ?_, ?_, ?_, ?_, ?_, ?_⟩ <;> simp [World.cell?, h.i, h.f, tc]
set_option maxRecDepth 100000 in
set_option maxHeartbeats 12800000 in
theorem isUser_any {w : World} {bi bf : Nat} {x : Tp} (h : Mn w bi bf x) (u : Us) :
    Calls Tryz.prog 61 #[.agg (uc u), .pointer (some ⟨bi, 0, none⟩), .pointer (some ⟨bf, 0, none⟩)] w fun e w' => e = .returned (.bool (told x.u.k u.k && told x.u.i u.i && told x.u.r u.r)) ∧ Below w.heap.size w w' := by
  have H1 := Lib.hid (fun w => is_any x.u.k u.k w)
  have H2 := Lib.hid (fun w => is_any x.u.i u.i w)
  have H3 := Lib.hid (fun w => is_any x.u.r u.r w)
  generalize told x.u.k u.k = b1 at *
  generalize told x.u.i u.i = b2 at *
  generalize told x.u.r u.r = b3 at *
  obtain ⟨w1, hw1⟩ : ∃ v, v = w.alloc (.cells (uc u) 30) := ⟨_, rfl⟩
  obtain ⟨b, hbe⟩ : ∃ v, v = w.heap.size := ⟨_, rfl⟩
  have b1' : Below w.heap.size w w1 := by rw [hw1]; exact al _ _
  have a1 : w1.heap[b]? = some (.cells (uc u) 30 (0, 0)) := by rw [hw1, hbe]; exact heap_alloc_new w _
  obtain ⟨c0, c1, c2, c3, c4, c5, c6⟩ := (h.below b1').cells
  unfold uc at a1 hw1 ⊢
  obtain ⟨d0, d1, d2⟩ := three_at a1
  have HB := Lib.hid b1'
  have HW1 := Lib.hid hw1
  have HBE := Lib.hid hbe
  clear hw1 hbe a1 b1' h c1 c2 c3
  cases b1
  · skip
    go_enter Tryz.func61, Tryz.ntmps61
    go_upto_region 1 with fail
    rw [← HW1.out, ← HBE.out]
    go_wp2_with fail
    (with_reducible refine (H1.out _).mono ?_)
    rintro e w' ⟨rfl, rfl⟩
    go_wp2_with fail
    go_ret
    exact ⟨rfl, HB.out⟩
  · skip
    cases b2
    · skip
      go_enter Tryz.func61, Tryz.ntmps61
      go_upto_region 1 with fail
      rw [← HW1.out, ← HBE.out]
      go_wp2_with fail
      (with_reducible refine (H1.out _).mono ?_)
      rintro e w' ⟨rfl, rfl⟩
      go_wp2_with fail
      (with_reducible refine (H2.out _).mono ?_)
      rintro e w' ⟨rfl, rfl⟩
      go_wp2_with fail
      go_ret
      exact ⟨rfl, HB.out⟩
    · skip
      go_enter Tryz.func61, Tryz.ntmps61
      go_upto_region 1 with fail
      rw [← HW1.out, ← HBE.out]
      go_wp2_with fail
      (with_reducible refine (H1.out _).mono ?_)
      rintro e w' ⟨rfl, rfl⟩
      go_wp2_with fail
      (with_reducible refine (H2.out _).mono ?_)
      rintro e w' ⟨rfl, rfl⟩
      go_wp2_with fail
      (with_reducible refine (H3.out _).mono ?_)
      rintro e w' ⟨rfl, rfl⟩
      go_wp2_with fail
      go_ret
      exact ⟨rfl, HB.out⟩
/-- .. and the box of 'isUser' -/
structure Mu (w : World) (bi bf bu : Nat) (x : Tp) : Prop where
  m : Mn w bi bf x
  u : w.heap[bu]? = some (.cells #[.func (.func 61) #[] #[.pointer (some ⟨bi, 0, none⟩), .pointer (some ⟨bf, 0, none⟩)]] 92 (0, 0))
theorem Mu.ltu {w : World} {bi bf bu : Nat} {x : Tp} (h : Mu w bi bf bu x) : bu < w.heap.size := (Array.getElem?_eq_some_iff.1 h.u).1
theorem Mu.same {w w' : World} {bi bf bu : Nat} {x : Tp} (h : Mu w bi bf bu x) (h1 : w'.heap[bi]? = w.heap[bi]?) (h2 : w'.heap[bf]? = w.heap[bf]?) (h3 : w'.heap[bu]? = w.heap[bu]?) : Mu w' bi bf bu x := ⟨h.m.same h1 h2, h3.trans h.u⟩
theorem Mu.below {w w' : World} {bi bf bu : Nat} {x : Tp} (h : Mu w bi bf bu x) (hb : Below w.heap.size w w') : Mu w' bi bf bu x := ⟨h.m.below hb, (hb.block _ h.ltu).trans h.u⟩
set_option maxRecDepth 100000 in
set_option maxHeartbeats 12800000 in
theorem means_any {w : World} {bi bf bu : Nat} {x : Tp} (h : Mu w bi bf bu x) (t : Tp) :
    Calls Tryz.prog 62 #[.agg (tc t), .pointer (some ⟨bi, 0, none⟩), .pointer (some ⟨bf, 0, none⟩), .pointer (some ⟨bu, 0, none⟩)] w fun e w' => e = .returned (.bool (means x t)) ∧ Below w.heap.size w w' := by
  have H1 := Lib.hid (fun w => is_any x.k t.k w)
  have H2 := Lib.hid (fun w => is_any x.i t.i w)
  have H3 := Lib.hid (fun w => is_any x.r t.r w)
  obtain ⟨w1, hw1⟩ : ∃ v, v = w.alloc (.cells (tc t) 32) := ⟨_, rfl⟩
  obtain ⟨b, hbe⟩ : ∃ v, v = w.heap.size := ⟨_, rfl⟩
  have b1' : Below w.heap.size w w1 := by rw [hw1]; exact al _ _
  have a1 : w1.heap[b]? = some (.cells (tc t) 32 (0, 0)) := by rw [hw1, hbe]; exact heap_alloc_new w _
  have H4 := isUser_any (h.below b1').m t.u
  have hm : means x t = (told x.k t.k && told x.i t.i && told x.r t.r && (told x.u.k t.u.k && told x.u.i t.u.i && told x.u.r t.u.r)) := by
    unfold means
    simp only [Bool.and_assoc]
  rw [hm]
  clear hm
  generalize told x.k t.k = b1 at *
  generalize told x.i t.i = b2 at *
  generalize told x.r t.r = b3 at *
  generalize (told x.u.k t.u.k && told x.u.i t.u.i && told x.u.r t.u.r) = b4 at *
  obtain ⟨c0, c1, c2, c3, _⟩ := (h.below b1').m.cells
  have cu : w1.cell? ⟨bu, 0, none⟩ = some (.func (.func 61) #[] #[.pointer (some ⟨bi, 0, none⟩), .pointer (some ⟨bf, 0, none⟩)]) := by simp [World.cell?, (h.below b1').u]
  unfold uc at H4
  unfold tc at a1 hw1 ⊢
  obtain ⟨d0, d1, d2, d3, d4, d5⟩ := six_at a1
  have H4 := Lib.hid H4
  have HB := Lib.hid b1'
  have HW1 := Lib.hid hw1
  have HBE := Lib.hid hbe
  clear hw1 hbe a1 b1' h
  cases b1
  · skip
    go_enter Tryz.func62, Tryz.ntmps62
    go_upto_region 1 with fail
    rw [← HW1.out, ← HBE.out]
    go_wp2_with fail
    (with_reducible refine (H1.out _).mono ?_)
    rintro e w' ⟨rfl, rfl⟩
    go_wp2_with fail
    go_ret
    exact ⟨rfl, HB.out⟩
  · skip
    cases b2
    · skip
      go_enter Tryz.func62, Tryz.ntmps62
      go_upto_region 1 with fail
      rw [← HW1.out, ← HBE.out]
      go_wp2_with fail
      (with_reducible refine (H1.out _).mono ?_)
      rintro e w' ⟨rfl, rfl⟩
      go_wp2_with fail
      (with_reducible refine (H2.out _).mono ?_)
      rintro e w' ⟨rfl, rfl⟩
      go_wp2_with fail
      go_ret
      exact ⟨rfl, HB.out⟩
    · skip
      cases b3
      · skip
        go_enter Tryz.func62, Tryz.ntmps62
        go_upto_region 1 with fail
        rw [← HW1.out, ← HBE.out]
        go_wp2_with fail
        (with_reducible refine (H1.out _).mono ?_)
        rintro e w' ⟨rfl, rfl⟩
        go_wp2_with fail
        (with_reducible refine (H2.out _).mono ?_)
        rintro e w' ⟨rfl, rfl⟩
        go_wp2_with fail
        (with_reducible refine (H3.out _).mono ?_)
        rintro e w' ⟨rfl, rfl⟩
        go_wp2_with fail
        go_ret
        exact ⟨rfl, HB.out⟩
      · skip
        go_enter Tryz.func62, Tryz.ntmps62
        go_upto_region 1 with fail
        rw [← HW1.out, ← HBE.out]
        go_wp2_with fail
        (with_reducible refine (H1.out _).mono ?_)
        rintro e w' ⟨rfl, rfl⟩
        go_wp2_with fail
        (with_reducible refine (H2.out _).mono ?_)
        rintro e w' ⟨rfl, rfl⟩
        go_wp2_with fail
        (with_reducible refine (H3.out _).mono ?_)
        rintro e w' ⟨rfl, rfl⟩
        go_wp2_with fail
        (with_reducible refine H4.out.mono ?_)
        rintro e w' ⟨rfl, hb⟩
        have HB := Lib.hid (Below.step HB.out hb)
        clear hb
        go_wp2_with fail
        go_ret
        exact ⟨rfl, HB.out⟩
theorem store_fn (w : World) (ty : TypeId) (fn : Fn) (xs ys : Array Value) : (store ⟨w.heap.size, 0, none⟩ (.func fn xs ys)).run Tryz.prog (w.alloc (.cells #[.nilFunc] ty)) = .ok () (w.alloc (.cells #[.func fn xs ys] ty)) := by
  have h0 := heap_alloc_new w (.cells #[.nilFunc] ty)
  have c0 : (w.alloc (.cells #[.nilFunc] ty)).cell? ⟨w.heap.size, 0, none⟩ = some .nilFunc := by simp only [World.cell?, h0]; rfl
  have f0 : (w.alloc (.cells #[.nilFunc] ty)).frozen? ⟨w.heap.size, 0, none⟩ = false := by simp only [World.frozen?, h0]; rfl
  rw [run_store _ _ _ _ _ rfl, c0, World.setCell_alloc_new]
  simp only [f0]
  rfl
def MeantPost (w0 : World) (x : Tp) (e : Ending) (w' : World) : Prop :=
  ∃ bi bf bu, e = .returned (.func (.func 62) #[] #[.pointer (some ⟨bi, 0, none⟩), .pointer (some ⟨bf, 0, none⟩), .pointer (some ⟨bu, 0, none⟩)]) ∧ Mu w' bi bf bu x ∧ (w0.heap.size ≤ bi ∧ w0.heap.size ≤ bf ∧ w0.heap.size ≤ bu) ∧ Below w0.heap.size w0 w'
set_option maxRecDepth 100000 in
set_option maxHeartbeats 12800000 in
theorem meant_any (x : Tp) (w : World) : Calls Tryz.prog 37 #[.agg (tc x)] w (MeantPost w x) := by
  obtain ⟨w1, hw1⟩ : ∃ v, v = w.alloc (.cells (tc x) 43) := ⟨_, rfl⟩
  obtain ⟨w2, hw2⟩ : ∃ v, v = w1.alloc (.cells #[.func (.func 60) #[] #[]] 95) := ⟨_, rfl⟩
  obtain ⟨b, hbe⟩ : ∃ v, v = w.heap.size := ⟨_, rfl⟩
  obtain ⟨w3, hw3⟩ : ∃ v, v = w2.alloc (.cells #[.func (.func 61) #[] #[.pointer (some ⟨b + 1, 0, none⟩), .pointer (some ⟨b, 0, none⟩)]] 92) := ⟨_, rfl⟩
  have b1 : Below w.heap.size w w1 := by rw [hw1]; exact al _ _
  have b12 : Below w1.heap.size w1 w2 := by rw [hw2]; exact al _ _
  have b23 : Below w2.heap.size w2 w3 := by rw [hw3]; exact al _ _
  have s1 : w1.heap.size = b + 1 := by rw [hw1, hbe]; simp
  have s2 : w2.heap.size = b + 2 := by rw [hw2]; simp [s1]
  have a1 : w1.heap[b]? = some (.cells (tc x) 43 (0, 0)) := by rw [hw1, hbe]; exact heap_alloc_new w _
  have a2 : w2.heap[b + 1]? = some (.cells #[.func (.func 60) #[] #[]] 95 (0, 0)) := by rw [hw2, ← s1]; exact heap_alloc_new w1 _
  have a3 : w3.heap[b + 2]? = some (.cells #[.func (.func 61) #[] #[.pointer (some ⟨b + 1, 0, none⟩), .pointer (some ⟨b, 0, none⟩)]] 92 (0, 0)) := by rw [hw3, ← s2]; exact heap_alloc_new w2 _
  have HF := Lib.hid (show MeantPost w x (.returned (.func (.func 62) #[] #[.pointer (some ⟨b + 1, 0, none⟩), .pointer (some ⟨b, 0, none⟩), .pointer (some ⟨b + 2, 0, none⟩)])) w3 from
    ⟨b + 1, b, b + 2, rfl, ⟨⟨(b23.block _ (by omega)).trans a2, (b23.block _ (by omega)).trans ((b12.block _ (by omega)).trans a1)⟩, a3⟩, ⟨by omega, by omega, by omega⟩, Below.step b1 (Below.step b12 b23)⟩)
  have HW1 := Lib.hid hw1
  have HW2 := Lib.hid hw2
  have HW3 := Lib.hid hw3
  have HBE := Lib.hid hbe
  have HS1 := Lib.hid s1
  have HS2 := Lib.hid s2
  clear hw1 hw2 hw3 hbe b1 b12 b23 s1 s2 a1 a2 a3
  go_enter Tryz.func37, Tryz.ntmps37
  go_upto_region 1 with fail
  rw [← HW1.out, ← HBE.out]
  have hst := store_fn w1 95 (.func 60) #[] #[]
  go_upto_region 2 with fail
  clear hst
  rw [← HW2.out, HS1.out]
  have hst := store_fn w2 92 (.func 61) #[] #[.pointer (some ⟨b + 1, 0, none⟩), .pointer (some ⟨b, 0, none⟩)]
  go_upto_region 3 with fail
  clear hst
  rw [← HW3.out, HS2.out]
  go_wp2_with fail
  go_ret
  exact HF.out
end Go.Proofs.YtilcnhdfdgmekaaGreat.FactsMeant
