/- What a text's rules are bounded by; how many lines a text has. No memory, no program. -/
import Derived.Test.YtkmnbdomikpakaaDoorKRuleChk
namespace Go.Proofs.YtkmnbdomikpakaaDoor.RuleTold
open KeyPlain TuplePlain RulePlain RuleCan RuleFacts RuleChk

theorem name_size {s : ByteArray} (h : nameR s = true) : s.size ≤ 12 := by
  simp only [nameR, Bool.and_eq_true] at h
  have h := h.1
  rw [← bl_size]
  cases hb : bl s with
  | nil => simp
  | cons c r =>
    rw [hb] at h
    simp only [nameL, Bool.and_eq_true, decide_eq_true_eq] at h
    simp only [List.length_cons]
    omega
theorem len_sizeL : ∀ ps : List Ex, ps.length ≤ sizeL ps
  | [] => by simp
  | .mk op nm fo qs :: ps => by
    have := len_sizeL ps
    simp only [List.length_cons, sizeL, Ex.size]
    omega
theorem formS_sizes {k : Kd} {op nm fo : ByteArray} {n : Nat} (hk : ∀ s, k.has s = true → s.size ≤ 12) (h : formS op nm fo n = true) (hn : namedS k op nm fo = true) : op.size ≤ 1000000 ∧ nm.size ≤ 1000000 ∧ fo.size ≤ 1000000 := by
  unfold formS at h
  by_cases h1 : op = kThis
  · rw [if_pos h1] at h
    simp only [Bool.and_eq_true, decide_eq_true_eq] at h
    subst h1
    exact ⟨by decide, by omega, by omega⟩
  rw [if_neg h1] at h
  by_cases h2 : op = kRel
  · rw [if_pos h2] at h
    simp only [Bool.and_eq_true, decide_eq_true_eq] at h
    rw [namedS, if_neg (by rw [h2]; decide), if_pos h2] at hn
    have := hk _ hn
    subst h2
    exact ⟨by decide, by omega, by omega⟩
  rw [if_neg h2] at h
  by_cases h3 : op = kFrom
  · rw [namedS, if_pos h3, Bool.and_eq_true] at hn
    have := hk _ hn.1
    have := name_size hn.2
    subst h3
    exact ⟨by decide, by omega, by omega⟩
  rw [if_neg h3] at h
  by_cases h4 : op = kOr ∨ op = kAnd
  · rw [if_pos h4] at h
    simp only [Bool.and_eq_true, decide_eq_true_eq] at h
    rcases h4 with rfl | rfl <;> exact ⟨by decide, by omega, by omega⟩
  rw [if_neg h4] at h
  by_cases h5 : op = kBut
  · rw [if_pos h5] at h
    simp only [Bool.and_eq_true, decide_eq_true_eq] at h
    subst h5
    exact ⟨by decide, by omega, by omega⟩
  rw [if_neg h5] at h
  cases h
mutual
theorem slim_told (k : Kd) (hk : ∀ s, k.has s = true → s.size ≤ 12) : ∀ e : Ex, e.form = true → e.named k = true → e.size ≤ 1000000 → e.slim = true
  | .mk op nm fo ps, hf, hn, hs => by
    simp only [Ex.form, Ex.named, Bool.and_eq_true] at hf hn
    simp only [Ex.size] at hs
    have h := formS_sizes hk hf.1 hn.1
    have hl := len_sizeL ps
    have hp := slimL_told k hk ps hf.2 hn.2 (by omega)
    simp only [Ex.slim, Bool.and_eq_true, decide_eq_true_eq]
    exact ⟨⟨⟨⟨h.1, h.2.1⟩, h.2.2⟩, by omega⟩, hp⟩
theorem slimL_told (k : Kd) (hk : ∀ s, k.has s = true → s.size ≤ 12) : ∀ l : List Ex, formL l = true → namedL k l = true → sizeL l ≤ 1000000 → slimL l = true
  | [], _, _, _ => by simp [slimL]
  | e :: l, hf, hn, hs => by
    simp only [formL, namedL, Bool.and_eq_true] at hf hn
    simp only [sizeL] at hs
    simp only [slimL, Bool.and_eq_true]
    exact ⟨slim_told k hk e hf.1 hn.1 (by omega), slimL_told k hk l hf.2 hn.2 (by omega)⟩
end
/-- what the document's Check asks of sizes -/
def Fit (l : List Kd) : Prop := ∀ k, k ∈ l → k.name.size ≤ 1000000 ∧ ∀ r, r ∈ k.rules → r.rel.size ≤ 1000000 ∧ r.e.deep ≤ 1000000 ∧ r.e.slim = true
theorem fit_check {l : List Kd} (h : check l = 0) : Fit l := fun k hk => by
  have h0 := (check_iff l).1 h
  have hr := h0.2.2
  simp only [rightK, Bool.and_eq_true, List.all_eq_true] at hr
  have h1 := hr.2 k hk
  have hf := h0.2.1
  simp only [formK, List.all_eq_true] at hf
  have hh : ∀ s, k.has s = true → s.size ≤ 12 := fun s hs => by
    simp only [Kd.has, List.any_eq_true, decide_eq_true_eq] at hs
    obtain ⟨r, hr, rfl⟩ := hs
    exact name_size (h1.2.2 r hr).1
  refine ⟨Nat.le_trans (name_size h1.1) (by omega), fun r hr => ?_⟩
  have hs := check_size h hk hr
  exact ⟨Nat.le_trans (name_size (h1.2.2 r hr).1) (by omega), by omega, slim_told k hh r.e (hf k hk r hr) (h1.2.2 r hr).2 (by omega)⟩
theorem fit_few {l : List Kd} (h : few l = true) : Fit l := fun k hk => by
  have h1 := fewK_of h hk
  exact ⟨by omega, fun r hr => ⟨Nat.le_trans (h1.2 r hr).2 (by omega), Nat.le_trans (Ex.deep_short 30 r.e (h1.2 r hr).1) (by omega), Ex.slim_short 30 r.e (h1.2 r hr).1⟩⟩
theorem sizes_check {l : List Kd} (h : check l = 0) : ∀ k, k ∈ l → ∀ r, r ∈ k.rules → r.e.size ≤ 9223372036854775807 ∨ 8 < r.e.deep := fun _ hk _ hr => Or.inl (Nat.le_trans (check_size h hk hr).1 (by omega))
theorem flat_mem {α : Type} (f : α → List UInt8) {l : List α} {a : α} (h : a ∈ l) : (f a).length ≤ (l.flatMap f).length := by
  obtain ⟨x, y, rfl⟩ := List.append_of_mem h
  simp only [List.flatMap_append, List.flatMap_cons, List.length_append]
  omega
theorem text_in {l : List Kd} {k : Kd} (hk : k ∈ l) {r : Rl} (hr : r ∈ k.rules) : r.e.text.length ≤ (show_ l).length := by
  have h1 := flat_mem Kd.text hk
  have h2 := flat_mem Rl.text hr
  have h3 : (k.rules.flatMap Rl.text).length ≤ k.text.length := by simp only [Kd.text, List.length_append, List.length_cons]; omega
  have h4 : r.e.text.length ≤ r.text.length := by simp only [Rl.text, List.length_append, List.length_cons]; omega
  unfold show_
  omega
mutual
theorem can_form : ∀ e : Ex, Ex.can e = true → e.form = true
  | .mk op nm fo ps, h => by
    simp only [Ex.can, Bool.and_eq_true] at h
    simp only [Ex.form, Bool.and_eq_true]
    exact ⟨h.1.1, canL_form ps h.2⟩
theorem canL_form : ∀ l : List Ex, canL l = true → formL l = true
  | [], _ => by simp [formL]
  | e :: l, h => by
    simp only [canL, Bool.and_eq_true] at h
    simp only [formL, Bool.and_eq_true]
    exact ⟨can_form e h.1, canL_form l h.2⟩
end
theorem can_formK {l : List Kd} (h : can l = true) : formK l = true := by
  simp only [formK, List.all_eq_true]
  intro k hk r hr
  simp only [can, List.all_eq_true] at h
  have h1 := h k hk
  simp only [Kd.can, Bool.and_eq_true, List.all_eq_true] at h1
  have h2 := h1.2 r hr
  simp only [Rl.can, Bool.and_eq_true] at h2
  exact can_form r.e h2.2
/-- lines that are right: too deep, or wrong in a name -/
theorem can_off {l : List Kd} (h : can l = true) (hc : check l ≠ 0) : check l = 122 ∨ check l = 121 := by
  have hf := can_formK h
  unfold check at hc ⊢
  rw [hf] at hc ⊢
  by_cases hd : deepK l = true
  · simp [hd]
  · by_cases hr : rightK l = true
    · simp [hd, hr] at hc
    · simp [hd, hr]
/-! lines -/
theorem flat_cnt : ∀ ls : List (List UInt8), (∀ x, x ∈ ls → (10 : UInt8) ∉ x) → (flat ls).count 10 = ls.length
  | [], _ => rfl
  | x :: ls, h => by
    have h1 := flat_cnt ls fun y hy => h y (by simp [hy])
    have h2 : x.count (10 : UInt8) = 0 := List.count_eq_zero.2 (h x (by simp))
    have e : flat (x :: ls) = x ++ ([10] ++ flat ls) := by simp [flat]
    rw [e, List.count_append, List.count_append, h1, h2]
    simp
    omega
theorem flat_end {ls : List (List UInt8)} (h : ls ≠ []) : ∃ y, flat ls = y ++ [10] := by
  refine ⟨flat ls.dropLast ++ ls.getLast h, ?_⟩
  have e : flat ls = flat (ls.dropLast ++ [ls.getLast h]) := by rw [List.dropLast_concat_getLast]
  rw [e, flat_append, List.append_assoc]
  simp [flat]
theorem flat_full {ls : List (List UInt8)} (h : ∀ x, x ∈ ls → (10 : UInt8) ∉ x) {j : Nat} (hj : j ≤ (flat ls).length) (hc : ((flat ls).take j).count 10 = ls.length) : j = (flat ls).length := by
  by_cases hn : ls = []
  · subst hn
    simp only [flat, List.flatMap_nil, List.length_nil] at hj ⊢
    omega
  obtain ⟨y, hy⟩ := flat_end hn
  have h1 := flat_cnt ls h
  rw [hy, List.count_append] at h1
  rw [hy] at hj hc ⊢
  simp only [List.length_append, List.length_cons, List.length_nil] at hj ⊢
  rcases Nat.lt_or_ge y.length j with g | g
  · omega
  · rw [List.take_append_of_le_length g] at hc
    have h3 : (y.take j).count 10 ≤ y.count 10 := (List.take_sublist j y).count_le 10
    simp at h1
    omega
/-- a text whose lines ahead of the rest are right: how many line feeds are where -/
theorem lines_at {l : List Kd} {s : ByteArray} {rest : List UInt8} (h : can l = true) (hs : bl s = show_ l ++ rest) : ((bl s).take (show_ l).length).count 10 = (lines l).length ∧ ∀ j, j ≤ (show_ l).length → ((bl s).take j).count 10 ≤ (lines l).length ∧ (((bl s).take j).count 10 = (lines l).length → j = (show_ l).length) := by
  have hl := lines_lf h
  have e : ∀ j, j ≤ (show_ l).length → (bl s).take j = (show_ l).take j := fun j hj => by rw [hs, List.take_append_of_le_length hj]
  refine ⟨?_, fun j hj => ?_⟩
  · rw [e _ (Nat.le_refl _), List.take_length, show_flat, flat_cnt _ hl]
  · rw [e j hj]
    rw [show_flat] at hj ⊢
    refine ⟨?_, fun hc => flat_full hl hj hc⟩
    have h3 : ((flat (lines l)).take j).count 10 ≤ (flat (lines l)).count 10 := (List.take_sublist j _).count_le 10
    rw [flat_cnt _ hl] at h3
    exact h3
theorem count_step (l : List UInt8) (j : Nat) (h : j < l.length) : (l.take (j + 1)).count 10 = (l.take j).count 10 + if l[j] = 10 then 1 else 0 := by
  rw [List.take_succ_eq_append_getElem h, List.count_append]
  by_cases e : l[j] = 10
  · simp [e]
  · simp [e]
end Go.Proofs.YtkmnbdomikpakaaDoor.RuleTold
