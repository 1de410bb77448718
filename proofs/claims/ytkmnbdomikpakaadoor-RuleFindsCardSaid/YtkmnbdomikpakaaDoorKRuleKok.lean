/- What a text tells is no greater than the text. -/
import Derived.Test.YtkmnbdomikpakaaDoorKRuleStep
namespace Go.Proofs.YtkmnbdomikpakaaDoor.RuleKok
open KeyPlain TuplePlain RulePlain RuleCan RuleLex RuleParse RuleAll RuleSets RuleStep

theorem op_few {op nm fo : ByteArray} {n : Nat} (h : formS op nm fo n = true) : op.size ≤ 4 := by
  unfold formS at h
  split at h
  · rename_i e; rw [e]; decide
  · split at h
    · rename_i e; rw [e]; decide
    · split at h
      · rename_i e; rw [e]; decide
      · split at h
        · rename_i e; rcases e with e | e <;> rw [e] <;> decide
        · split at h
          · rename_i e; rw [e]; decide
          · cases h
theorem this_form {nm fo : ByteArray} {n : Nat} (h : formS kThis nm fo n = true) : nm.size = 0 ∧ fo.size = 0 ∧ n = 0 := by
  rw [formS, if_pos rfl] at h
  simp only [Bool.and_eq_true, decide_eq_true_eq] at h
  exact ⟨h.1.1, h.1.2, h.2⟩
theorem rel_form {nm fo : ByteArray} {n : Nat} (h : formS kRel nm fo n = true) : fo.size = 0 ∧ n = 0 := by
  rw [formS, if_neg (by decide), if_pos rfl] at h
  simp only [Bool.and_eq_true, decide_eq_true_eq] at h
  exact h
theorem from_form {nm fo : ByteArray} {n : Nat} (h : formS kFrom nm fo n = true) : n = 0 := by
  rw [formS, if_neg (by decide), if_neg (by decide), if_pos rfl] at h
  simpa using h
theorem wide_mk {op nm fo : ByteArray} {ps : List Ex} (h0 : op.size ≤ 4) (h1 : nm.size ≤ 1000000000) (h2 : fo.size ≤ 1000000000) (h3 : allL (fun e => wideS e.op e.nm e.fo) ps = true) : wide (.mk op nm fo ps) = true := by
  unfold wide
  rw [allE, h3, Bool.and_true]
  show wideS op nm fo = true
  rw [wideS, decide_eq_true (show op.size ≤ 1000000000 by omega), decide_eq_true h1, decide_eq_true h2]
  rfl
mutual
theorem ex_few : ∀ e : Ex, Ex.can e = true → e.deep ≤ e.text.length ∧ (e.text.length ≤ 1000000000 → wide e = true)
  | .mk op nm fo ps, h => by
    rw [can_mk, Bool.and_eq_true, Bool.and_eq_true] at h
    obtain ⟨⟨hf, hc⟩, hl⟩ := h
    have h4 := op_few hf
    obtain ⟨i1, i2⟩ := exL_few ps hl
    simp only [Ex.deep]
    rw [Ex.text]
    by_cases e1 : op = kThis
    · subst e1
      obtain ⟨f1, f2, f3⟩ := this_form hf
      obtain rfl := List.eq_nil_of_length_eq_zero f3
      rw [if_pos rfl]
      exact ⟨by decide, fun _ => wide_mk h4 (by omega) (by omega) rfl⟩
    · rw [if_neg e1]
      by_cases e2 : op = kRel
      · subst e2
        obtain ⟨f1, f2⟩ := rel_form hf
        obtain rfl := List.eq_nil_of_length_eq_zero f2
        rw [if_pos rfl]
        rw [canS, if_pos rfl, Bool.and_eq_true] at hc
        have hw := List.length_pos_iff.2 (word_ne hc.1)
        exact ⟨by simp only [deepL]; omega, fun h => wide_mk h4 (by rw [← bl_size]; exact h) (by omega) rfl⟩
      · rw [if_neg e2]
        by_cases e3 : op = kFrom
        · subst e3
          obtain rfl := List.eq_nil_of_length_eq_zero (from_form hf)
          rw [if_pos rfl]
          refine ⟨by simp only [deepL, List.length_cons, List.length_append]; omega, fun h => wide_mk h4 ?_ ?_ rfl⟩
          · simp only [List.length_cons, List.length_append, bl_size] at h
            omega
          · simp only [List.length_cons, List.length_append, bl_size] at h
            omega
        · rw [if_neg e3]
          obtain ⟨_, rfl, rfl⟩ := node_op hf e1 e2 e3
          refine ⟨by simp only [List.length_cons, List.length_append]; omega, fun h => wide_mk h4 (by decide) (by decide) (i2 ?_)⟩
          simp only [List.length_cons, List.length_append] at h
          omega
theorem exL_few : ∀ ps : List Ex, canL ps = true → deepL ps ≤ (textL ps).length ∧ ((textL ps).length ≤ 1000000000 → allL (fun e => wideS e.op e.nm e.fo) ps = true)
  | [], _ => ⟨Nat.le_refl _, fun _ => rfl⟩
  | e :: l, h => by
    simp only [canL, Bool.and_eq_true] at h
    obtain ⟨a1, a2⟩ := ex_few e h.1
    obtain ⟨b1, b2⟩ := exL_few l h.2
    simp only [deepL, textL, List.length_cons, List.length_append]
    refine ⟨by omega, fun hz => ?_⟩
    rw [allL, b2 (by omega)]
    have := a2 (by omega)
    unfold wide at this
    rw [this]
    rfl
end
theorem line_le {m : List (List UInt8)} {a : List UInt8} (h : a ∈ m) : a.length ≤ (flat m).length := by
  induction m with
  | nil => cases h
  | cons b m ih =>
    simp only [flat, List.flatMap_cons, List.length_append, List.length_cons, List.length_nil] at ih ⊢
    rcases List.mem_cons.1 h with rfl | h
    · omega
    · have := ih h; omega
theorem kok_of {l : List Kd} (hc : can l = true) (hz : (show_ l).length ≤ 1000000000) : l.length ≤ 1000000000 ∧ ∀ k, k ∈ l → KOk k := by
  have hll : (lines l).length ≤ 1000000000 := Nat.le_trans (lines_le l) hz
  have hlen : l.length ≤ (lines l).length := by
    clear hc hz hll
    induction l with
    | nil => exact Nat.le_refl _
    | cons k l ih => simp only [lines, List.flatMap_cons, List.length_append, List.length_cons] at ih ⊢; omega
  have hm : ∀ k, k ∈ l → lineK k ∈ lines l ∧ k.rules.length ≤ (lines l).length ∧ ∀ r, r ∈ k.rules → lineR r ∈ lines l := fun k hk => by
    have h1 : ∀ x, x ∈ lineK k :: k.rules.map lineR → x ∈ lines l := fun x hx => List.mem_flatMap.2 ⟨k, hk, hx⟩
    refine ⟨h1 _ (List.mem_cons_self ..), ?_, fun r hr => h1 _ (List.mem_cons_of_mem _ (List.mem_map.2 ⟨r, hr, rfl⟩))⟩
    clear h1 hll hlen hz hc
    induction l with
    | nil => cases hk
    | cons b l ih =>
      simp only [lines, List.flatMap_cons, List.length_append, List.length_cons, List.length_map] at ih ⊢
      rcases List.mem_cons.1 hk with rfl | h
      · omega
      · have := ih h; omega
  have hlf : ∀ a, a ∈ lines l → a.length ≤ 1000000000 := fun a ha => by
    have := line_le ha
    rw [← show_flat] at this
    omega
  refine ⟨by omega, fun k hk => ?_⟩
  obtain ⟨h1, h2, h3⟩ := hm k hk
  have hkc : Kd.can k = true := List.all_eq_true.1 hc k hk
  simp only [Kd.can, Bool.and_eq_true, List.all_eq_true] at hkc
  refine ⟨?_, by omega, fun r hr => ?_⟩
  · have := hlf _ h1
    simp only [lineK, List.length_append, List.length_cons, bl_size] at this
    omega
  · have := hlf _ (h3 r hr)
    simp only [lineR, List.length_append, List.length_cons, bl_size] at this
    have hrc := hkc.2 r hr
    simp only [Rl.can, Bool.and_eq_true] at hrc
    obtain ⟨g1, g2⟩ := ex_few r.e hrc.2
    exact ⟨by omega, by omega, g2 (by omega)⟩
end Go.Proofs.YtkmnbdomikpakaaDoor.RuleKok
