/- Reading line by line: what a line does to the rules read; no program. -/
import Derived.Test.YtkmnbdomikpakaaDoorKRuleGrow
import Derived.Test.YtkmnbdomikpakaaDoorKRuleIter
import Derived.Test.YtkmnbdomikpakaaDoorKRulePieces
namespace Go.Proofs.YtkmnbdomikpakaaDoor.RuleStep
open KeyPlain TuplePlain RulePlain RuleCan RuleLex RuleParse RuleIter

theorem line_end {b u x : List UInt8} (hb : (10 : UInt8) ∉ b) (h : b ++ [10] = u ++ 10 :: x) : x = [] ∧ b = u := by
  rcases List.eq_nil_or_concat x with rfl | ⟨y, z, rfl⟩
  · have := List.append_inj' h rfl
    exact ⟨rfl, this.1⟩
  · have h2 : b ++ [10] = (u ++ 10 :: y) ++ [z] := by rw [h]; simp
    have := (List.append_inj' h2 rfl).1
    exact absurd (by rw [this]; simp) hb
theorem at_line {line rest u x : List UInt8} (h : LineAt line rest) (e : line = u ++ 10 :: x) : x = [] := by
  rcases h with ⟨b, hb, rfl⟩ | ⟨h1, _, _⟩
  · exact (line_end hb e).1
  · exact absurd (by rw [e]; simp) h1
/-- a kind's line -/
theorem step_kind {l : List Kd} {n : ByteArray} {line rest x : List UInt8} (hc : can l = true) (hw : wordL (bl n) = true) (hl : LineAt line rest) (e : line = bl kKind ++ 32 :: (bl n ++ 10 :: x)) :
    can (addK l n) = true ∧ show_ l ++ line = show_ (addK l n) ∧ (lines (addK l n)).length = (lines l).length + 1 := by
  have hx : x = [] := at_line hl (u := bl kKind ++ 32 :: bl n) (by rw [e]; simp)
  subst hx
  refine ⟨addK_can hc hw, ?_, by rw [addK_lines]; simp⟩
  rw [addK_show, e]
  simp [lineK]
/-- a rule's line -/
theorem step_rule {l : List Kd} {k : Kd} {r : Rl} {line rest x : List UInt8} (hc : can (l ++ [k]) = true) (hr : Rl.can r = true) (hl : LineAt line rest) (e : line = lineR r ++ 10 :: x) :
    can (l ++ [⟨k.name, k.rules ++ [r]⟩]) = true ∧ show_ (l ++ [k]) ++ line = show_ (l ++ [⟨k.name, k.rules ++ [r]⟩]) ∧ (lines (l ++ [⟨k.name, k.rules ++ [r]⟩])).length = (lines (l ++ [k])).length + 1 := by
  have hx : x = [] := at_line hl e
  subst hx
  have hn : (l ++ [k]).isEmpty = false := by simp
  rw [← addR_last]
  refine ⟨addR_can hc hr, ?_, by rw [addR_lines r hn]; simp⟩
  rw [addR_show r hn, e]
/-- no line that may stand -/
theorem step_no {l : List Kd} {line rest : List UInt8} (hl : LineAt line rest) (hk : ∀ (m : ByteArray) (x : List UInt8), wordL (bl m) = true → line ≠ bl kKind ++ 32 :: (bl m ++ 10 :: x)) (hr : l.isEmpty = true ∨ ∀ (r : Rl) (x : List UInt8), Rl.can r = true → line ≠ lineR r ++ 10 :: x) :
    NoLine l.isEmpty (line ++ rest) ∧ line ++ rest ≠ [] := by
  rcases hl with ⟨b, hb, rfl⟩ | ⟨h1, h2, rfl⟩
  · refine ⟨?_, by simp⟩
    rw [List.append_assoc]
    refine noline_of hb fun h => ?_
    rcases right_iff.1 h with ⟨w, hw, e⟩ | ⟨hf, r, hc, e⟩
    · exact hk w [] hw (by rw [e]; simp)
    · rcases hr with hr | hr
      · rw [hr] at hf; cases hf
      · exact hr r [] hc (by rw [e])
  · rw [List.append_nil]
    exact ⟨noline_end h1, h2⟩
theorem lines_le (l : List Kd) : (lines l).length ≤ (show_ l).length := by
  rw [show_flat]
  have h : ∀ m : List (List UInt8), m.length ≤ (flat m).length := fun m => by
    induction m with
    | nil => simp
    | cons a m ih => simp only [flat, List.flatMap_cons, List.length_cons, List.length_append, List.length_nil] at ih ⊢; omega
  exact h _
end Go.Proofs.YtkmnbdomikpakaaDoor.RuleStep
