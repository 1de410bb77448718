/- FreePlain, FreePlain2. -/
import Derived.WalkKit
namespace Go.Proofs.YtpidnkfcccboaaaGreat.FreePlain

/-- pages and epochs -/
abbrev Fs := List (Int × Int)
def Fit (p : Int × Int) : Prop := 2 ≤ p.1 ∧ p.1 ≤ 4294967295 ∧ 0 ≤ p.2 ∧ p.2 ≤ 4294967295
def Rise (l : Fs) : Prop := l.Pairwise fun a b => a.1 < b.1
def Gd (l : Fs) : Prop := (∀ p ∈ l, Fit p) ∧ Rise l
theorem rise_cons {p : Int × Int} {l : Fs} : Rise (p :: l) ↔ (∀ q ∈ l, p.1 < q.1) ∧ Rise l := List.pairwise_cons
/-- with a page more -/
def ins (g e : Int) : Fs → Fs
 | [] => [(g, e)]
 | p :: l => if p.1 < g then p :: ins g e l else if p.1 = g then (g, e) :: l else (g, e) :: p :: l
/-- the first that may be used, and the rest -/
def first (o : Int) : Fs → Option Int × Fs
 | [] => (none, [])
 | p :: l => if p.2 ≤ o then (some p.1, l) else ((first o l).1, p :: (first o l).2)
def usable (o : Int) (l : Fs) : Nat := (l.filter fun p => decide (p.2 ≤ o)).length
theorem ins_mem {g e : Int} {q : Int × Int} : ∀ {l : Fs}, q ∈ ins g e l → q = (g, e) ∨ q ∈ l
 | [], h => by simp [ins] at h; exact .inl h
 | p :: l, h => by
  simp only [ins] at h
  split at h
  ·rcases List.mem_cons.1 h with rfl | h
   ·exact .inr (by simp)
   ·rcases ins_mem h with h | h
    ·exact .inl h
    ·exact .inr (by simp [h])
  ·split at h
   ·rcases List.mem_cons.1 h with rfl | h
    ·exact .inl rfl
    ·exact .inr (by simp [h])
   ·rcases List.mem_cons.1 h with rfl | h
    ·exact .inl rfl
    ·exact .inr h
theorem ins_len (g e : Int) : ∀ l : Fs, (ins g e l).length ≤ l.length + 1
 | [] => by simp [ins]
 | p :: l => by
  simp only [ins]
  split
  ·have := ins_len g e l; simp; omega
  ·split <;> simp
theorem rise_ins (g e : Int) : ∀ {l : Fs}, Rise l → Rise (ins g e l)
 | [], _ => by simp [ins, Rise]
 | p :: l, h => by
  obtain ⟨h1, h2⟩ := rise_cons.1 h
  simp only [ins]
  split
  ·rename_i hlt
   refine rise_cons.2 ⟨fun q hq => ?_, rise_ins g e h2⟩
   rcases ins_mem hq with rfl | hq
   ·exact hlt
   ·exact h1 q hq
  ·rename_i hlt
   split
   ·rename_i he
    exact rise_cons.2 ⟨fun q hq => by have := h1 q hq; show g < q.1; omega, h2⟩
   ·rename_i hne
    refine rise_cons.2 ⟨fun q hq => ?_, h⟩
    rcases List.mem_cons.1 hq with rfl | hq
    ·show g < q.1; omega
    ·have := h1 q hq; show g < q.1; omega
/-! item by item -/
def Acc (g e : Int) (t : Fs) (d : Bool) (acc : Fs) : Prop := (d = false → (∀ p ∈ t, p.1 < g) ∧ acc = t) ∧ (d = true → (∃ p ∈ t, g ≤ p.1) ∧ acc = ins g e t)
theorem ins_all {g e : Int} : ∀ {t : Fs} (s : Fs), (∀ p ∈ t, p.1 < g) → ins g e (t ++ s) = t ++ ins g e s
 | [], _, _ => rfl
 | p :: t, s, h => by
  have h1 := h p (by simp)
  have ih := ins_all (e := e) (t := t) s fun q hq => h q (by simp [hq])
  simp only [List.cons_append, ins, h1, if_true, ih]
theorem Acc.len {g e : Int} {t : Fs} {d : Bool} {acc : Fs} (h : Acc g e t d acc) : acc.length ≤ t.length + 1 := by
 cases d with
 | false => rw [(h.1 rfl).2]; omega
 | true => rw [(h.2 rfl).2]; exact ins_len g e t
/-- the first that may be used, item by item -/
theorem first_none {o : Int} : ∀ {t : Fs} (s : Fs), (∀ p ∈ t, ¬ p.2 ≤ o) → first o (t ++ s) = ((first o s).1, t ++ (first o s).2)
 | [], _, _ => rfl
 | p :: t, s, h => by
  have h1 := h p (by simp)
  have ih := first_none (t := t) s fun q hq => h q (by simp [hq])
  simp only [List.cons_append, first, h1, if_false, ih]
theorem first_no {o : Int} : ∀ {l : Fs}, (first o l).1 = none → (∀ p ∈ l, ¬ p.2 ≤ o) ∧ (first o l).2 = l
 | [], _ => ⟨fun _ h => (by cases h), rfl⟩
 | p :: l, h => by
  by_cases h1 : p.2 ≤ o
  ·simp [first, h1] at h
  ·simp only [first, h1, if_false] at h ⊢
   obtain ⟨i1, i2⟩ := first_no h
   exact ⟨fun q hq => (by
    rcases List.mem_cons.1 hq with rfl | hq
    ·exact h1
    ·exact i1 q hq), by rw [i2]⟩
end Go.Proofs.YtpidnkfcccboaaaGreat.FreePlain
namespace Go.Proofs.YtpidnkfcccboaaaGreat.FreePlain2
open FreePlain

/-- what a taking comes to -/
structure Got (o : Int) (l : Fs) (p : Int) : Prop where
 one : (first o l).1 = some p
 less : usable o (first o l).2 + 1 = usable o l
 len : (first o l).2.length + 1 = l.length
 mem : ∃ e, e ≤ o ∧ (p, e) ∈ l
 low : Rise l → ∀ x ∈ l, x.2 ≤ o → p ≤ x.1
 up : Rise l → ∀ x ∈ (first o l).2, x.2 ≤ o → p < x.1
theorem first_sub (o : Int) : ∀ l : Fs, (first o l).2.Sublist l
 | [] => List.Sublist.refl _
 | p :: l => by
  simp only [first]
  split
  ·exact List.sublist_cons_self p l
  ·exact (first_sub o l).cons_cons p
end Go.Proofs.YtpidnkfcccboaaaGreat.FreePlain2
