/- Reading rules line by line: what one line more comes to. No memory, no program. -/
import Derived.Test.YtkmnbdomikpakaaDoorKRuleCan
namespace Go.Proofs.YtkmnbdomikpakaaDoor.RuleLex
open KeyPlain TuplePlain RulePlain RuleCan

/-- a kind more -/
def addK (l : List Kd) (w : ByteArray) : List Kd := l ++ [⟨w, []⟩]
/-- a rule more, of the last kind -/
def addR : List Kd → Rl → List Kd
  | [], _ => []
  | [k], r => [⟨k.name, k.rules ++ [r]⟩]
  | k :: k' :: l, r => k :: addR (k' :: l) r
theorem addR_last : ∀ (l : List Kd) (k : Kd) (r : Rl), addR (l ++ [k]) r = l ++ [⟨k.name, k.rules ++ [r]⟩]
  | [], _, _ => rfl
  | [a], k, r => rfl
  | a :: b :: l, k, r => by
    have := addR_last (b :: l) k r
    simp only [List.cons_append] at this ⊢
    rw [addR, this]
theorem can_append (a b : List Kd) : can (a ++ b) = (can a && can b) := by simp [can]
theorem lines_append (a b : List Kd) : lines (a ++ b) = lines a ++ lines b := by simp [lines]
theorem addK_can {l : List Kd} {w : ByteArray} (h : can l = true) (hw : wordL (bl w) = true) : can (addK l w) = true := by
  rw [addK, can_append, h]
  simp [can, Kd.can, hw]
theorem addK_lines (l : List Kd) (w : ByteArray) : lines (addK l w) = lines l ++ [lineK ⟨w, []⟩] := by
  rw [addK, lines_append]
  simp [lines]
theorem addK_show (l : List Kd) (w : ByteArray) : show_ (addK l w) = show_ l ++ (lineK ⟨w, []⟩ ++ [10]) := by
  rw [show_flat, show_flat, addK_lines, flat_append]
  simp [flat]
theorem snoc_of {l : List Kd} (h : l.isEmpty = false) : ∃ a k, l = a ++ [k] := by
  have hn : l ≠ [] := fun e => by rw [e] at h; cases h
  exact ⟨l.dropLast, l.getLast hn, (List.dropLast_concat_getLast hn).symm⟩
theorem addR_can {l : List Kd} {r : Rl} (h : can l = true) (hr : Rl.can r = true) : can (addR l r) = true := by
  cases he : l.isEmpty with
  | true =>
    obtain rfl : l = [] := by simpa using he
    rfl
  | false =>
    obtain ⟨a, k, rfl⟩ := snoc_of he
    rw [can_append, Bool.and_eq_true] at h
    rw [addR_last, can_append, h.1, Bool.true_and]
    have h2 := (can_cons.1 h.2).1
    simp only [Kd.can, Bool.and_eq_true] at h2
    simp [can, Kd.can, h2.1, h2.2, hr]
theorem addR_lines {l : List Kd} (r : Rl) (he : l.isEmpty = false) : lines (addR l r) = lines l ++ [lineR r] := by
  obtain ⟨a, k, rfl⟩ := snoc_of he
  rw [addR_last, lines_append, lines_append]
  simp [lines, lineK]
theorem addR_show {l : List Kd} (r : Rl) (he : l.isEmpty = false) : show_ (addR l r) = show_ l ++ (lineR r ++ [10]) := by
  rw [show_flat, show_flat, addR_lines r he, flat_append]
  simp [flat]
/-- a line that is right -/
theorem right_iff {first : Bool} {b : List UInt8} : Right first b ↔ (∃ w : ByteArray, wordL (bl w) = true ∧ b = bl kKind ++ 32 :: bl w) ∨ (first = false ∧ ∃ r : Rl, Rl.can r = true ∧ b = lineR r) := by
  constructor
  · rintro (⟨k, hk, rfl⟩ | h)
    · simp only [Kd.can, Bool.and_eq_true] at hk
      exact Or.inl ⟨k.name, hk.1, rfl⟩
    · exact Or.inr h
  · rintro (⟨w, hw, rfl⟩ | h)
    · exact Or.inl ⟨⟨w, []⟩, by simp [Kd.can, hw], rfl⟩
    · exact Or.inr h
/-- the first line is wrong -/
theorem noline_of {first : Bool} {b r : List UInt8} (hb : (10 : UInt8) ∉ b) (h : ¬ Right first b) : NoLine first (b ++ 10 :: r) := fun b' r' e hb' hr => by
  obtain ⟨rfl, _⟩ := split_at hb hb' e
  exact h hr
/-- no line ends -/
theorem noline_end {first : Bool} {rest : List UInt8} (h : (10 : UInt8) ∉ rest) : NoLine first rest := fun b r e _ _ => h (by rw [e]; simp)
/-- a rule's line: the word, the sign, the expression -/
theorem lineR_split {w x : List UInt8} {r : Rl} (hw : w.all wch = true) (hr : Rl.can r = true) (hx : Stop x) (h : w ++ x = lineR r) : w = bl r.rel ∧ x = 32 :: 61 :: 32 :: r.e.text := by
  simp only [Rl.can, Bool.and_eq_true] at hr
  unfold lineR at h
  exact word_split hw (word_all hr.1) hx (stop_c _ (Or.inl rfl)) h
/-- what an expression's reading tells: it and what lies behind it, or that there is none -/
def ExAt (s : List UInt8) : Option (Ex × List UInt8) → Prop
  | some (e, x) => Ex.can e = true ∧ s = e.text ++ x
  | none => ∀ e x, Ex.can e = true → Stop x → s ≠ e.text ++ x
/-- a line with a word, the sign and an expression that ends it: a rule -/
theorem rule_yes {w s : List UInt8} {e : Ex} {n : ByteArray} (hn : bl n = w) (hw : wordL w = true) (he : ExAt s (some (e, []))) : Rl.can ⟨n, e⟩ = true ∧ w ++ 32 :: 61 :: 32 :: s = lineR ⟨n, e⟩ := by
  subst hn
  refine ⟨by simp [Rl.can, hw, he.1], ?_⟩
  rw [he.2, List.append_nil]
  rfl
/-- .. and else none -/
theorem rule_no {w s : List UInt8} {o : Option (Ex × List UInt8)} (hw : w.all wch = true) (ho : ExAt s o) (hs : ∀ e x, o = some (e, x) → Wordy e → Stop x) (hne : ∀ e, o ≠ some (e, [])) (r : Rl) (hr : Rl.can r = true) : w ++ 32 :: 61 :: 32 :: s ≠ lineR r := fun h => by
  obtain ⟨_, h2⟩ := lineR_split hw hr (stop_c _ (Or.inl rfl)) h
  simp only [List.cons.injEq, true_and] at h2
  simp only [Rl.can, Bool.and_eq_true] at hr
  match o, ho, hs, hne with
  | none, ho, _, _ => exact ho r.e [] hr.2 (by simp [Stop]) (by rw [h2, List.append_nil])
  | some (e, x), ho, hs, hne =>
    obtain ⟨rfl, h3⟩ := text_two e r.e x [] ho.1 hr.2 (hs e x rfl) (fun _ => by simp [Stop]) (by rw [← ho.2, h2, List.append_nil])
    exact hne r.e (by rw [h3])
end Go.Proofs.YtkmnbdomikpakaaDoor.RuleLex
