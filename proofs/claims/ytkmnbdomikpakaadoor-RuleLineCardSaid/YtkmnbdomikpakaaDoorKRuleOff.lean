/- Of a text's rules, the code's Check says no form is wrong. -/
import Derived.Test.YtkmnbdomikpakaaDoorKRuleCan
import Derived.Test.YtkmnbdomikpakaaDoorKRuleChkC
namespace Go.Proofs.YtkmnbdomikpakaaDoor.RuleOff
open KeyPlain TuplePlain RulePlain RuleCan RuleGl RuleAll RuleMuch RuleChkC

theorem em_no {t : ByteArray} (h : wordL (bl t) = true) : em t = false := by
  unfold em
  rw [decide_eq_false_iff_not, ← bl_size]
  exact fun e => word_ne h (List.eq_nil_of_length_eq_zero e)
theorem em_yes {t : ByteArray} (h : t.size = 0) : em t = true := by
  unfold em
  rw [h]; rfl
theorem form_can {op nm fo : ByteArray} {n : Nat} (h : formS op nm fo n = true) (hc : canS op nm fo = true) (hn : n ≤ 64) : formC op nm fo n = true := by
  rw [formC_eq]
  by_cases h1 : op = kThis
  · subst h1
    rw [formS, if_pos rfl] at h
    simp only [Bool.and_eq_true, decide_eq_true_eq] at h
    rw [if_pos rfl, em_yes h.1.1, em_yes h.1.2, decide_eq_true h.2]
    rfl
  rw [if_neg h1]
  by_cases h2 : op = kRel
  · subst h2
    rw [formS, if_neg h1, if_pos rfl] at h
    simp only [Bool.and_eq_true, decide_eq_true_eq] at h
    rw [canS, if_pos rfl, Bool.and_eq_true] at hc
    rw [if_pos rfl, em_no hc.1, em_yes h.1, decide_eq_true h.2]
    rfl
  rw [if_neg h2]
  by_cases h3 : op = kFrom
  · subst h3
    rw [formS, if_neg h1, if_neg h2, if_pos rfl, decide_eq_true_eq] at h
    rw [canS, if_neg h2, if_pos rfl, Bool.and_eq_true] at hc
    rw [if_pos rfl, em_no hc.1, em_no hc.2, decide_eq_true h]
    rfl
  rw [if_neg h3]
  rw [formS, if_neg h1, if_neg h2, if_neg h3] at h
  by_cases h4 : op = kOr ∨ op = kAnd
  · rw [if_pos h4] at h ⊢
    simp only [Bool.and_eq_true, decide_eq_true_eq] at h
    rw [em_yes h.1.1, em_yes h.1.2, decide_eq_true h.2, decide_eq_true (show (n : Int) ≤ anyMo by unfold anyMo; omega)]
    rfl
  · rw [if_neg h4] at h ⊢
    by_cases h5 : op = kBut
    · rw [if_pos h5] at h ⊢
      simp only [Bool.and_eq_true, decide_eq_true_eq] at h
      rw [em_yes h.1.1, em_yes h.1.2, decide_eq_true h.2]
      rfl
    · rw [if_neg h5] at h
      cases h
theorem len_le : ∀ ps : List Ex, ps.length ≤ sizeL ps
  | [] => Nat.le_refl _
  | .mk op nm fo qs :: l => by
    have := len_le l
    simp only [List.length_cons, sizeL, Ex.size]
    omega
mutual
theorem own_E : ∀ e : Ex, Ex.can e = true → e.size ≤ 64 → allE ownC e = true
  | .mk op nm fo ps, h, hz => by
    simp only [Ex.can, Bool.and_eq_true] at h
    simp only [Ex.size] at hz
    have := len_le ps
    rw [allE, own_L ps h.2 (by omega), Bool.and_true]
    exact form_can h.1.1 h.1.2 (show ps.length ≤ 64 by omega)
theorem own_L : ∀ ps : List Ex, canL ps = true → sizeL ps ≤ 64 → allL ownC ps = true
  | [], _, _ => rfl
  | e :: l, h, hz => by
    simp only [canL, Bool.and_eq_true] at h
    simp only [sizeL] at hz
    rw [allL, own_E e h.1 (by omega), own_L l h.2 (by omega)]
    rfl
end
theorem form_all {l : List Kd} (h : can l = true) (hd : deepK l = false) : formKC l = true := by
  unfold formKC allK
  rw [List.all_eq_true]
  intro k hk
  unfold allR
  rw [List.all_eq_true]
  intro r hr
  have hkc := List.all_eq_true.1 h k hk
  simp only [Kd.can, Bool.and_eq_true, List.all_eq_true] at hkc
  have hrc := hkc.2 r hr
  simp only [Rl.can, Bool.and_eq_true] at hrc
  refine own_E r.e hrc.2 ?_
  unfold deepK at hd
  simp only [Bool.or_eq_false_iff, List.any_eq_false, Bool.not_eq_true, decide_eq_false_iff_not] at hd
  have := (hd.2 k hk).2 r hr
  omega
theorem can_offC {l : List Kd} (h : can l = true) (hc : checkC l ≠ 0) : checkC l = 122 ∨ checkC l = 121 := by
  unfold checkC at hc ⊢
  cases hd : deepK l with
  | true => exact Or.inl (by simp)
  | false =>
    rw [hd, form_all h hd] at hc
    cases hr : rightK l with
    | true => rw [hr] at hc; simp at hc
    | false => exact Or.inr (by simp [form_all h hd])
end Go.Proofs.YtkmnbdomikpakaaDoor.RuleOff
