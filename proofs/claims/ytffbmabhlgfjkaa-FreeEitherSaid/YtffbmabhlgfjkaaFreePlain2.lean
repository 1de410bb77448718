/- More plain facts on lists of free pages: what is taken first. -/
import Derived.Test.YtffbmabhlgfjkaaFreePlain
namespace Go.Proofs.Ytffbmabhlgfjkaa.FreePlain2
open FreePlain

theorem usable_nil (o : Int) : usable o [] = 0 := rfl
theorem usable_cons (o : Int) (p : Int × Int) (l : Fs) : usable o (p :: l) = (if p.2 ≤ o then 1 else 0) + usable o l := by
  unfold usable
  by_cases h : p.2 ≤ o <;> simp [h] <;> omega
theorem usable_le (o : Int) (l : Fs) : usable o l ≤ l.length := List.length_filter_le _ _
theorem usable_mono {a b : Int} (h : a ≤ b) : ∀ l : Fs, usable a l ≤ usable b l
  | [] => Nat.le_refl _
  | p :: l => by
    have ih := usable_mono h l
    rw [usable_cons, usable_cons]
    by_cases h1 : p.2 ≤ a
    · have h2 : p.2 ≤ b := by omega
      simp [h1, h2]; omega
    · by_cases h2 : p.2 ≤ b <;> simp [h1, h2] <;> omega
theorem usable_take {o : Int} {l : Fs} {k : Nat} (h : k < l.length) : usable o (l.take (k + 1)) = usable o (l.take k) + if (l[k]).2 ≤ o then 1 else 0 := by
  unfold usable
  rw [List.take_succ_eq_append_getElem h, List.filter_append, List.length_append]
  by_cases h : (l[k]).2 ≤ o <;> simp [h]
/-- what a taking comes to -/
structure Got (o : Int) (l : Fs) (p : Int) : Prop where
  one : (first o l).1 = some p
  less : usable o (first o l).2 + 1 = usable o l
  len : (first o l).2.length + 1 = l.length
  mem : ∃ e, e ≤ o ∧ (p, e) ∈ l
  low : Rise l → ∀ x ∈ l, x.2 ≤ o → p ≤ x.1
  up : Rise l → ∀ x ∈ (first o l).2, x.2 ≤ o → p < x.1
theorem first_sub (o : Int) : ∀ l : Fs, (first o l).2.Sublist l
  | [] => List.Sublist.refl _
  | p :: l => by
    simp only [first]
    split
    · exact List.sublist_cons_self p l
    · exact (first_sub o l).cons_cons p
theorem first_zero {o : Int} : ∀ {l : Fs}, usable o l = 0 → first o l = (none, l)
  | [], _ => rfl
  | p :: l, h => by
    rw [usable_cons] at h
    by_cases h1 : p.2 ≤ o
    · simp [h1] at h
    · rw [if_neg h1, Nat.zero_add] at h
      simp only [first, h1, if_false, first_zero (o := o) (l := l) h]
theorem first_got {o : Int} : ∀ {l : Fs}, 0 < usable o l → ∃ p, Got o l p
  | [], h => by simp [usable_nil] at h
  | q :: l, h => by
    by_cases h1 : q.2 ≤ o
    · have e : first o (q :: l) = (some q.1, l) := by simp [first, h1]
      refine ⟨q.1, by rw [e], by rw [e, usable_cons]; simp [h1]; omega, by rw [e]; simp, ⟨q.2, h1, by simp⟩, fun hr x hx _ => ?_, fun hr x hx _ => ?_⟩
      · rcases List.mem_cons.1 hx with rfl | hx
        · omega
        · have := (rise_cons.1 hr).1 x hx; omega
      · rw [e] at hx
        exact (rise_cons.1 hr).1 x hx
    · have e : first o (q :: l) = ((first o l).1, q :: (first o l).2) := by simp [first, h1]
      rw [usable_cons] at h
      rw [if_neg h1, Nat.zero_add] at h
      obtain ⟨p, g⟩ := first_got (o := o) (l := l) h
      obtain ⟨e1, he1, hm⟩ := g.mem
      refine ⟨p, by rw [e]; exact g.one, by rw [e, usable_cons, usable_cons]; simp only [h1, if_false]; have := g.less; omega, by rw [e]; have := g.len; simp; omega, ⟨e1, he1, by simp [hm]⟩, fun hr x hx hxo => ?_, fun hr x hx hxo => ?_⟩
      · rcases List.mem_cons.1 hx with rfl | hx
        · exact absurd hxo h1
        · exact g.low (rise_cons.1 hr).2 x hx hxo
      · rw [e] at hx
        rcases List.mem_cons.1 hx with rfl | hx
        · exact absurd hxo h1
        · exact g.up (rise_cons.1 hr).2 x hx hxo
theorem gd_first {o : Int} {l : Fs} (h : Gd l) : Gd (first o l).2 := ⟨fun p hp => h.1 p ((first_sub o l).subset hp), List.Pairwise.sublist (first_sub o l) h.2⟩
theorem some_iff {o : Int} {l : Fs} : (first o l).1.isSome = decide (0 < usable o l) := by
  rcases Nat.eq_zero_or_pos (usable o l) with h | h
  · rw [first_zero h]; simp [h]
  · obtain ⟨p, g⟩ := first_got h
    rw [g.one]; simp [h]
theorem gd_one {p : Int × Int} : Gd [p] ↔ Fit p := ⟨fun h => h.1 p (by simp), fun h => ⟨fun q hq => (by rw [List.mem_singleton.1 hq]; exact h), rise_cons.2 ⟨fun q hq => (by cases hq), List.Pairwise.nil⟩⟩⟩
theorem older {a b : Int} {l : Fs} (hab : a ≤ b) (hr : Rise l) {p : Int} (h : (first a l).1 = some p) : ∃ q, (first b l).1 = some q ∧ q ≤ p := by
  have h1 : 0 < usable a l := by
    have := some_iff (o := a) (l := l)
    rw [h] at this
    simpa using this.symm
  obtain ⟨p', g⟩ := first_got h1
  have e : p' = p := by have := g.one; rw [h] at this; injection this with this; exact this.symm
  subst e
  obtain ⟨q, g'⟩ := first_got (Nat.lt_of_lt_of_le h1 (usable_mono hab l))
  obtain ⟨e, he, hm⟩ := g.mem
  exact ⟨q, g'.one, g'.low hr _ hm (show e ≤ b by omega)⟩
end Go.Proofs.Ytffbmabhlgfjkaa.FreePlain2
