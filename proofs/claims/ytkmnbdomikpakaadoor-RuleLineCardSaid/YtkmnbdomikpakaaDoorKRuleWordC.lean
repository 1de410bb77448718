/- The code's wordExpr. -/
import Derived.Test.YtkmnbdomikpakaaDoorKHeld
import Derived.Test.YtkmnbdomikpakaaDoorKRuleChkC
import Derived.Test.YtkmnbdomikpakaaDoorKRuleCopied
import Derived.Test.YtkmnbdomikpakaaDoorKRuleFind
import Derived.Test.YtkmnbdomikpakaaDoorKRuleWord
namespace Go.Proofs.YtkmnbdomikpakaaDoor.RuleWordC
open Go.RowKit Base KeyPlain TuplePlain TupleRef RulePlain RuleMem RuleRec RuleFind RuleCan RuleGl RuleChkC RuleWord TurnB

theorem set4_other {w : World} {g b : Nat} (h : g ≠ b) (x y z u : Value) : ((((w.setCell ⟨b, 0, none⟩ x).setCell ⟨b, 1, none⟩ y).setCell ⟨b, 2, none⟩ z).setCell ⟨b, 3, none⟩ u).heap[g]? = w.heap[g]? :=
  (Below.heap_setCell _ _ _ _ h).trans ((Below.heap_setCell _ _ _ _ h).trans ((Below.heap_setCell _ _ _ _ h).trans (Below.heap_setCell _ _ _ _ h)))
/-- the expression that a word tells -/
def rdW (t : ByteArray) : Ex := if t = kThis then .mk kThis ⟨#[]⟩ ⟨#[]⟩ [] else .mk kRel t ⟨#[]⟩ []
def exV (op nm fo : ByteArray) : Value := .agg #[.string op, .string nm, .string fo, .slice none 0 0]
theorem form_this : formC kThis ⟨#[]⟩ ⟨#[]⟩ 0 = true := by rw [formC_eq, if_pos rfl]; rfl
theorem form_rel (t : ByteArray) : formC kRel t ⟨#[]⟩ 0 = !em t := by
  rw [formC_eq, if_neg (by decide), if_pos rfl]
  rw [show em ⟨#[]⟩ = true from rfl]
  cases em t <;> rfl
set_option maxRecDepth 100000 in
set_option maxHeartbeats 6400000 in
theorem wordExpr_any (t : ByteArray) (w : World) (hG : Gl w) : Calls Tryd.prog 71 #[.string t] w fun e w' => e = .returned (.tuple #[exV (rdW t).op (rdW t).nm (rdW t).fo, .bool (!em t)]) ∧ Below w.heap.size w w' := by
  unfold exV
  by_cases ht : t = kThis
  · subst ht
    rw [show rdW kThis = .mk kThis ⟨#[]⟩ ⟨#[]⟩ [] from if_pos rfl, show em kThis = false from by decide]
    simp only [Ex.op, Ex.nm, Ex.fo, Bool.not_false]
    obtain ⟨w1, hw1⟩ : ∃ v, v = w.alloc (.cells #[.string ⟨#[]⟩, .string ⟨#[]⟩, .string ⟨#[]⟩, .slice none 0 0] 34) := ⟨_, rfl⟩
    obtain ⟨b, hbe⟩ : ∃ v, v = w.heap.size := ⟨_, rfl⟩
    have hb1 : Below w.heap.size w w1 := by rw [hw1]; exact al _ _
    have a1 : w1.heap[b]? = some (.cells #[.string ⟨#[]⟩, .string ⟨#[]⟩, .string ⟨#[]⟩, .slice none 0 0] 34 (0, 0)) := by rw [hw1, hbe]; exact heap_alloc_new w _
    have HW := Lib.hid hw1
    have HBE := Lib.hid hbe
    clear hw1 hbe
    obtain ⟨w2, hw12⟩ : ∃ v, v = w1.alloc (.cells #[.string kThis, .string ⟨#[]⟩, .string ⟨#[]⟩, .slice none 0 0] 34) := ⟨_, rfl⟩
    obtain ⟨b2, hbe2⟩ : ∃ v, v = w1.heap.size := ⟨_, rfl⟩
    have hb12 : Below w1.heap.size w1 w2 := by rw [hw12]; exact al _ _
    have a12 : w2.heap[b2]? = some (.cells #[.string kThis, .string ⟨#[]⟩, .string ⟨#[]⟩, .slice none 0 0] 34 (0, 0)) := by rw [hw12, hbe2]; exact heap_alloc_new w1 _
    have HW2 := Lib.hid hw12
    have HBE2 := Lib.hid hbe2
    clear hw12 hbe2
    obtain rfl : b2 = b + 1 := by rw [HBE2.out, HW.out, HBE.out]; simp
    have HB2 := Lib.hid (Below.step hb1 hb12)
    have HB1 := Lib.hid (fun (w' : World) (hw' : Below w2.heap.size w2 w') => (hw'.block b (Nat.lt_of_lt_of_le (heap_lt a1) hb12.size)).trans ((hb12.block b (heap_lt a1)).trans a1))
    have HB4 := Lib.hid (fun (w' : World) (hw' : Below w2.heap.size w2 w') => (hw'.block (b + 1) (heap_lt a12)).trans a12)
    have HG := Lib.hid (fun (w' : World) (hw' : Below w2.heap.size w2 w') => hG.later (Below.step HB2.out hw'))
    have HLE := Lib.hid (show w.heap.size ≤ b from Nat.le_of_eq HBE.out.symm)
    clear hb1 hb12 a1 a12 hG
    go_enter Tryd.func71, Tryd.ntmps71
    go_upto_region 1 with fail
    try rw [← HW.out]
    try rw [← HBE.out]
    go_upto_region 4 with fail
    try rw [← HW2.out]
    try rw [← HBE2.out]
    clear HW HW2
    refine wp_region_any (by kernel_rfl) ?_
    change wpAny _ _ _ _ _ _ _ (World.drew _)
    refine Held.any_of_G (S := (fun w' : World => w'.cell? ⟨b + 1, 0, none⟩ = some (.string kThis) ∧ w'.cell? ⟨b + 1, 1, none⟩ = some (.string ⟨#[]⟩) ∧ w'.cell? ⟨b + 1, 2, none⟩ = some (.string ⟨#[]⟩) ∧ w'.cell? ⟨b + 1, 3, none⟩ = some (.slice none 0 0))) (z := 4) _ _ _ _ ?_
    refine Held.G_take (i := 0) (d := 10) (v := ?_) [0, 3, 4] rfl rfl (by kernel_rfl) (by kernel_rfl) (by kernel_rfl) (by kernel_rfl) (fun _ _ _ h => h) (Or.inl ⟨by rfl, ?_⟩) (four_at (HB4.out _ (show Below w2.heap.size w2 w2.drew from (Below.refl _ _).drew))) ?_
    rotate_left 1
    · intro w hSw; obtain ⟨d0, d1, d2, d3⟩ := hSw; go_simp <;> with_reducible rfl
    simp only [Act.put, List.setIfInBounds_toArray, List.set_cons_zero, List.set_cons_succ]
    refine Held.G_take (i := 1) (d := 11) (v := ?_) [1, 2, 3, 4] rfl rfl (by kernel_rfl) (by kernel_rfl) (by kernel_rfl) (by kernel_rfl) (fun _ _ _ h => h) (Or.inl ⟨by rfl, ?_⟩) (four_at (HB4.out _ (show Below w2.heap.size w2 w2.drew from (Below.refl _ _).drew))) ?_
    rotate_left 1
    · intro w hSw; obtain ⟨d0, d1, d2, d3⟩ := hSw; go_simp <;> with_reducible rfl
    simp only [Act.put, List.setIfInBounds_toArray, List.set_cons_zero, List.set_cons_succ]
    refine Held.G_ready (rs := [2]) (by decide +kernel) (by simp) ?_
    refine Held.G_cons rfl (fun KK hK => ?_) Held.G_nil
    go_simp
    have hcall := hasForm_any kThis ⟨#[]⟩ ⟨#[]⟩ 0 none 0 _ (HG.out _ (show Below w2.heap.size w2 w2.drew from (Below.refl _ _).drew))
    rw [form_this] at hcall
    (with_reducible refine hcall.mono ?_)
    clear hcall
    rintro e9 v1 ⟨rfl, bq⟩
    have hq1 : Below w2.heap.size w2 v1 := Below.step (show Below w2.heap.size w2 w2.drew from (Below.refl _ _).drew) bq
    have h1 := HB1.out _ hq1
    have f0 : v1.frozen? ⟨b, 0, none⟩ = false := by simp [World.frozen?, h1]
    have f1 : v1.frozen? ⟨b, 1, none⟩ = false := by simp [World.frozen?, h1]
    have f2 : v1.frozen? ⟨b, 2, none⟩ = false := by simp [World.frozen?, h1]
    have f3 : v1.frozen? ⟨b, 3, none⟩ = false := by simp [World.frozen?, h1]
    obtain ⟨d0, d1, d2, d3⟩ := four_at h1
    have HS4 := Lib.hid (set4 h1 (.string kThis) (.string ⟨#[]⟩) (.string ⟨#[]⟩) (.slice none 0 0))
    have HBX := Lib.hid (below4 (Below.step HB2.out hq1) HLE.out (.string kThis) (.string ⟨#[]⟩) (.string ⟨#[]⟩) (.slice none 0 0))
    clear bq h1
    go_simp
    refine hK _ _ ?_
    clear hK KK
    refine ⟨(four_at (HB4.out _ hq1)), ?_⟩
    refine Held.G_ready (rs := [3]) (by decide +kernel) (by simp) ?_
    refine Held.G_cons rfl (fun KK hK => ?_) Held.G_nil
    go_simp
    refine hK _ _ ⟨(four_at ((set4_other (by simp) (.string kThis) (.string ⟨#[]⟩) (.string ⟨#[]⟩) (.slice none 0 0)).trans (HB4.out _ hq1))), ?_⟩
    clear hK KK
    refine Held.G_ready (rs := [4]) (by decide +kernel) (by simp) ?_
    refine Held.G_last rfl (fun KK hK => ?_) Held.G_nil
    go_simp
    refine hK _ _ ?_
    clear hK KK
    refine Held.G_done (by kernel_rfl) ?_ _
    clear f0 f1 f2 f3 d0 d1 d2 d3 hq1
    go_wp2_with fail
    refine bodyPost_ret (results_cell_tmp_row rfl _ _ b 34 _ (0, 0) _ rfl HS4.out Tryd.underlying34 rfl (by kernel_rfl)) rfl ?_
    exact ⟨rfl, HBX.out⟩
  · rw [show rdW t = .mk kRel t ⟨#[]⟩ [] from if_neg ht]
    simp only [Ex.op, Ex.nm, Ex.fo]
    have hq : (t.toList == [116, 104, 105, 115]) = false := by rw [tl_this]; exact decide_eq_false ht
    clear ht
    have HF := Lib.hid (form_rel t)
    generalize (!em t) = ok at *
    obtain ⟨w1, hw1⟩ : ∃ v, v = w.alloc (.cells #[.string ⟨#[]⟩, .string ⟨#[]⟩, .string ⟨#[]⟩, .slice none 0 0] 34) := ⟨_, rfl⟩
    obtain ⟨b, hbe⟩ : ∃ v, v = w.heap.size := ⟨_, rfl⟩
    have hb1 : Below w.heap.size w w1 := by rw [hw1]; exact al _ _
    have a1 : w1.heap[b]? = some (.cells #[.string ⟨#[]⟩, .string ⟨#[]⟩, .string ⟨#[]⟩, .slice none 0 0] 34 (0, 0)) := by rw [hw1, hbe]; exact heap_alloc_new w _
    have HW := Lib.hid hw1
    have HBE := Lib.hid hbe
    clear hw1 hbe
    obtain ⟨w2, hw12⟩ : ∃ v, v = w1.alloc (.cells #[.string kRel, .string t, .string ⟨#[]⟩, .slice none 0 0] 34) := ⟨_, rfl⟩
    obtain ⟨b2, hbe2⟩ : ∃ v, v = w1.heap.size := ⟨_, rfl⟩
    have hb12 : Below w1.heap.size w1 w2 := by rw [hw12]; exact al _ _
    have a12 : w2.heap[b2]? = some (.cells #[.string kRel, .string t, .string ⟨#[]⟩, .slice none 0 0] 34 (0, 0)) := by rw [hw12, hbe2]; exact heap_alloc_new w1 _
    have HW2 := Lib.hid hw12
    have HBE2 := Lib.hid hbe2
    clear hw12 hbe2
    obtain rfl : b2 = b + 1 := by rw [HBE2.out, HW.out, HBE.out]; simp
    have HB2 := Lib.hid (Below.step hb1 hb12)
    have HB1 := Lib.hid (fun (w' : World) (hw' : Below w2.heap.size w2 w') => (hw'.block b (Nat.lt_of_lt_of_le (heap_lt a1) hb12.size)).trans ((hb12.block b (heap_lt a1)).trans a1))
    have HB4 := Lib.hid (fun (w' : World) (hw' : Below w2.heap.size w2 w') => (hw'.block (b + 1) (heap_lt a12)).trans a12)
    have HG := Lib.hid (fun (w' : World) (hw' : Below w2.heap.size w2 w') => hG.later (Below.step HB2.out hw'))
    have HLE := Lib.hid (show w.heap.size ≤ b from Nat.le_of_eq HBE.out.symm)
    clear hb1 hb12 a1 a12 hG
    go_enter Tryd.func71, Tryd.ntmps71
    go_upto_region 1 with fail
    try rw [← HW.out]
    try rw [← HBE.out]
    go_upto_region 4 with fail
    try rw [← HW2.out]
    try rw [← HBE2.out]
    clear HW HW2
    refine wp_region_any (by kernel_rfl) ?_
    change wpAny _ _ _ _ _ _ _ (World.drew _)
    refine Held.any_of_G (S := (fun w' : World => w'.cell? ⟨b + 1, 0, none⟩ = some (.string kRel) ∧ w'.cell? ⟨b + 1, 1, none⟩ = some (.string t) ∧ w'.cell? ⟨b + 1, 2, none⟩ = some (.string ⟨#[]⟩) ∧ w'.cell? ⟨b + 1, 3, none⟩ = some (.slice none 0 0))) (z := 4) _ _ _ _ ?_
    refine Held.G_take (i := 0) (d := 10) (v := ?_) [0, 3, 4] rfl rfl (by kernel_rfl) (by kernel_rfl) (by kernel_rfl) (by kernel_rfl) (fun _ _ _ h => h) (Or.inl ⟨by rfl, ?_⟩) (four_at (HB4.out _ (show Below w2.heap.size w2 w2.drew from (Below.refl _ _).drew))) ?_
    rotate_left 1
    · intro w hSw; obtain ⟨d0, d1, d2, d3⟩ := hSw; go_simp <;> with_reducible rfl
    simp only [Act.put, List.setIfInBounds_toArray, List.set_cons_zero, List.set_cons_succ]
    refine Held.G_take (i := 1) (d := 11) (v := ?_) [1, 2, 3, 4] rfl rfl (by kernel_rfl) (by kernel_rfl) (by kernel_rfl) (by kernel_rfl) (fun _ _ _ h => h) (Or.inl ⟨by rfl, ?_⟩) (four_at (HB4.out _ (show Below w2.heap.size w2 w2.drew from (Below.refl _ _).drew))) ?_
    rotate_left 1
    · intro w hSw; obtain ⟨d0, d1, d2, d3⟩ := hSw; go_simp <;> with_reducible rfl
    simp only [Act.put, List.setIfInBounds_toArray, List.set_cons_zero, List.set_cons_succ]
    refine Held.G_ready (rs := [2]) (by decide +kernel) (by simp) ?_
    refine Held.G_cons rfl (fun KK hK => ?_) Held.G_nil
    go_simp
    have hcall := hasForm_any kRel t ⟨#[]⟩ 0 none 0 _ (HG.out _ (show Below w2.heap.size w2 w2.drew from (Below.refl _ _).drew))
    rw [HF.out] at hcall
    (with_reducible refine hcall.mono ?_)
    clear hcall
    rintro e9 v1 ⟨rfl, bq⟩
    have hq1 : Below w2.heap.size w2 v1 := Below.step (show Below w2.heap.size w2 w2.drew from (Below.refl _ _).drew) bq
    have h1 := HB1.out _ hq1
    have f0 : v1.frozen? ⟨b, 0, none⟩ = false := by simp [World.frozen?, h1]
    have f1 : v1.frozen? ⟨b, 1, none⟩ = false := by simp [World.frozen?, h1]
    have f2 : v1.frozen? ⟨b, 2, none⟩ = false := by simp [World.frozen?, h1]
    have f3 : v1.frozen? ⟨b, 3, none⟩ = false := by simp [World.frozen?, h1]
    obtain ⟨d0, d1, d2, d3⟩ := four_at h1
    have HS4 := Lib.hid (set4 h1 (.string kRel) (.string t) (.string ⟨#[]⟩) (.slice none 0 0))
    have HBX := Lib.hid (below4 (Below.step HB2.out hq1) HLE.out (.string kRel) (.string t) (.string ⟨#[]⟩) (.slice none 0 0))
    clear bq h1
    go_simp
    refine hK _ _ ?_
    clear hK KK
    refine ⟨(four_at (HB4.out _ hq1)), ?_⟩
    refine Held.G_ready (rs := [3]) (by decide +kernel) (by simp) ?_
    refine Held.G_cons rfl (fun KK hK => ?_) Held.G_nil
    go_simp
    refine hK _ _ ⟨(four_at ((set4_other (by simp) (.string kRel) (.string t) (.string ⟨#[]⟩) (.slice none 0 0)).trans (HB4.out _ hq1))), ?_⟩
    clear hK KK
    refine Held.G_ready (rs := [4]) (by decide +kernel) (by simp) ?_
    refine Held.G_last rfl (fun KK hK => ?_) Held.G_nil
    go_simp
    refine hK _ _ ?_
    clear hK KK
    refine Held.G_done (by kernel_rfl) ?_ _
    clear f0 f1 f2 f3 d0 d1 d2 d3 hq1
    go_wp2_with fail
    refine bodyPost_ret (results_cell_tmp_row rfl _ _ b 34 _ (0, 0) _ rfl HS4.out Tryd.underlying34 rfl (by kernel_rfl)) rfl ?_
    exact ⟨rfl, HBX.out⟩
end Go.Proofs.YtkmnbdomikpakaaDoor.RuleWordC
