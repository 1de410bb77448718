/- The code's contracts, together. -/
import Derived.Test.YtkmnbdomikpakaaDoorKRuleAwake
import Derived.Test.YtkmnbdomikpakaaDoorKRuleChk
import Derived.Test.YtkmnbdomikpakaaDoorKRuleFindC
import Derived.Test.YtkmnbdomikpakaaDoorKRuleFold
import Derived.Test.YtkmnbdomikpakaaDoorKRuleReadC
import Derived.Test.YtkmnbdomikpakaaDoorKRuleShowC
namespace Go.Proofs.YtkmnbdomikpakaaDoor.RuleReal
open Go.RowKit Base KeyPlain TuplePlain TupleRef RulePlain RuleMem RuleRec RuleFew RuleFind RuleCan RuleGl RuleChkC RuleAll RuleSets RuleFacts RuleSpec

mutual
theorem short_E : ∀ (d : Nat) (e : Ex), e.short d = true → allE (fun e => wideS e.op e.nm e.fo) e = true
  | 0, .mk _ _ _ _, h => by simp [Ex.short] at h
  | d + 1, .mk op nm fo ps, h => by
    simp only [Ex.short, Bool.and_eq_true, decide_eq_true_eq] at h
    rw [allE, short_L d ps h.2, Bool.and_true]
    show wideS op nm fo = true
    rw [wideS, decide_eq_true (show op.size ≤ 1000000000 by omega), decide_eq_true (show nm.size ≤ 1000000000 by omega), decide_eq_true (show fo.size ≤ 1000000000 by omega)]
    rfl
theorem short_L : ∀ (d : Nat) (l : List Ex), shortL d l = true → allL (fun e => wideS e.op e.nm e.fo) l = true
  | _, [], _ => rfl
  | d, e :: l, h => by
    simp only [shortL, Bool.and_eq_true] at h
    rw [allL, short_E d e h.1, short_L d l h.2]
    rfl
end
theorem few_k {l : List Kd} (h : few l = true) : l.length ≤ 70 ∧ ∀ k, k ∈ l → k.name.size ≤ 100 ∧ k.rules.length ≤ 70 ∧ ∀ r, r ∈ k.rules → r.e.short 30 = true ∧ r.rel.size ≤ 100 := by
  unfold few at h
  simp only [Bool.and_eq_true, decide_eq_true_eq, List.all_eq_true] at h
  refine ⟨h.1, fun k hk => ?_⟩
  have := h.2 k hk
  unfold fewK at this
  simp only [Bool.and_eq_true, decide_eq_true_eq, List.all_eq_true] at this
  refine ⟨this.1.2, this.1.1, fun r hr => ?_⟩
  have := this.2 r hr
  unfold fewR at this
  simp only [Bool.and_eq_true, decide_eq_true_eq] at this
  exact ⟨this.1.1, this.2⟩
theorem few_ok {l : List Kd} (h : few l = true) : l.length ≤ 1000000000 ∧ ∀ k, k ∈ l → KOk k := by
  obtain ⟨h1, h2⟩ := few_k h
  refine ⟨by omega, fun k hk => ?_⟩
  obtain ⟨a, b, c⟩ := h2 k hk
  refine ⟨by omega, by omega, fun r hr => ?_⟩
  obtain ⟨d, e⟩ := c r hr
  exact ⟨by omega, by have := Ex.deep_short 30 _ d; omega, short_E 30 _ d⟩
theorem specs : Specs where
  cDeep e q w h hL := RuleFold.cDeep_any e q w hL (by have := Ex.deep_short 30 e h; omega)
  cSize e q w h hL := RuleFold.cSize_any e q w hL (by have := Ex.deep_short 30 e h; omega)
  cFind A c l kind rel w h _ _ hL := RuleFindC.cFind_any A c l kind rel w hL (by have := (few_k h).1; unfold maxLen; omega) fun k hk r hr => Ex.slim_short 30 _ (((few_k h).2 k hk).2.2 r hr).1
  cCheck A c l w h hG hL := cCheck_any A c l w hL (few_ok h).1 (few_ok h).2 hG
  cShow A c l w h hG hL := RuleShowC.cShow_any A c l w hL (few_ok h).1 (few_ok h).2 hG (fun hz => show_len h ((checkC_zero l).1 hz)) fun hz k hk r hr => by
    have h1 := text_len 30 r.e (((few_k h).2 k hk).2.2 r hr).1
    have h2 := check_size ((checkC_zero l).1 hz) hk hr
    omega
  cBut A c l w h hL := RuleMuch.cBut_any A c l w hL (by have := (few_k h).1; unfold maxLen; omega) fun k hk r hr => (((few_ok h).2 k hk).2.2 r hr).2
  cRead s w hz hG := RuleReadC.read_any s w hz hG
end Go.Proofs.YtkmnbdomikpakaaDoor.RuleReal
