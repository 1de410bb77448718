/- FreePlain, FreePlain2. -/
import Derived.WalkKit
namespace Go.Proofs.YtpidnkfcccboaaaGreat.FreePlain

/-- pages and epochs -/
abbrev Fs := List (Int × Int)
def Fit (p : Int × Int) : Prop := 2 ≤ p.1 ∧ p.1 ≤ 4294967295 ∧ 0 ≤ p.2 ∧ p.2 ≤ 4294967295
def Rise (l : Fs) : Prop := l.Pairwise fun a b => a.1 < b.1
def Gd (l : Fs) : Prop := (∀ p ∈ l, Fit p) ∧ Rise l
theorem rise_cons {p : Int × Int} {l : Fs} : Rise (p :: l) ↔ (∀ q ∈ l, p.1 < q.1) ∧ Rise l := List.pairwise_cons
/-- with a page more -/
def ins (g e : Int) : Fs → Fs
 | [] => [(g, e)]
 | p :: l => if p.1 < g then p :: ins g e l else if p.1 = g then (g, e) :: l else (g, e) :: p :: l
/-- the first that may be used, and the rest -/
def first (o : Int) : Fs → Option Int × Fs
 | [] => (none, [])
 | p :: l => if p.2 ≤ o then (some p.1, l) else ((first o l).1, p :: (first o l).2)
def usable (o : Int) (l : Fs) : Nat := (l.filter fun p => decide (p.2 ≤ o)).length
theorem ins_mem {g e : Int} {q : Int × Int} : ∀ {l : Fs}, q ∈ ins g e l → q = (g, e) ∨ q ∈ l
 | [], h => by simp [ins] at h; exact .inl h
 | p :: l, h => by
  simp only [ins] at h
  split at h
  ·rcases List.mem_cons.1 h with rfl | h
   ·exact .inr (by simp)
   ·rcases ins_mem h with h | h
    ·exact .inl h
    ·exact .inr (by simp [h])
  ·split at h
   ·rcases List.mem_cons.1 h with rfl | h
    ·exact .inl rfl
    ·exact .inr (by simp [h])
   ·rcases List.mem_cons.1 h with rfl | h
    ·exact .inl rfl
    ·exact .inr h
theorem ins_len (g e : Int) : ∀ l : Fs, (ins g e l).length ≤ l.length + 1
 | [] => by simp [ins]
 | p :: l => by
  simp only [ins]
  split
  ·have := ins_len g e l; simp; omega
  ·split <;> simp
theorem rise_ins (g e : Int) : ∀ {l : Fs}, Rise l → Rise (ins g e l)
 | [], _ => by simp [ins, Rise]
 | p :: l, h => by
  obtain ⟨h1, h2⟩ := rise_cons.1 h
  simp only [ins]
  split
  ·rename_i hlt
   refine rise_cons.2 ⟨fun q hq => ?_, rise_ins g e h2⟩
   rcases ins_mem hq with rfl | hq
   ·exact hlt
   ·exact h1 q hq
  ·rename_i hlt
   split
   ·rename_i he
    exact rise_cons.2 ⟨fun q hq => by have := h1 q hq; show g < q.1; omega, h2⟩
   ·rename_i hne
    refine rise_cons.2 ⟨fun q hq => ?_, h⟩
    rcases List.mem_cons.1 hq with rfl | hq
    ·show g < q.1; omega
    ·have := h1 q hq; show g < q.1; omega
theorem gd_ins {l : Fs} (h : Gd l) {g e : Int} (hf : Fit (g, e)) : Gd (ins g e l) :=
 ⟨fun p hp => (by
  rcases ins_mem hp with rfl | hp
  ·exact hf
  ·exact h.1 p hp), rise_ins g e h.2⟩
theorem ins_comm {a b : Int} (x y : Int) (hab : a ≠ b) : ∀ l : Fs, ins a x (ins b y l) = ins b y (ins a x l)
 | [] => by
  rcases Int.lt_trichotomy a b with h | h | h
  ·have h1 : ¬ b < a := by omega
   simp [ins, h, h1, hab.symm]
  ·exact absurd h hab
  ·have h1 : ¬ a < b := by omega
   simp [ins, h, h1, hab]
 | p :: l => by
  have ih := ins_comm x y hab l
  obtain ⟨c, z⟩ := p
  rcases Int.lt_trichotomy c a with p1 | p1 | p1 <;> rcases Int.lt_trichotomy c b with q1 | q1 | q1
  ·simp [ins, p1, q1, ih]
  ·subst q1; simp [ins, p1]
  ·have h1 : b < a := by omega
   have h2 : ¬ c < b := by omega
   have h3 : c ≠ b := by omega
   simp [ins, p1, h1, h2, h3]
  ·subst p1; simp [ins, q1]
  ·subst p1; exact absurd q1 hab
  ·subst p1
   have h2 : ¬ c < b := by omega
   have h3 : c ≠ b := by omega
   simp [ins, q1, h2, h3]
  ·have h1 : a < b := by omega
   have h2 : ¬ c < a := by omega
   have h3 : c ≠ a := by omega
   simp [ins, q1, h1, h2, h3]
  ·subst q1
   have h2 : ¬ c < a := by omega
   have h3 : c ≠ a := by omega
   simp [ins, p1, h2, h3]
  ·have h2 : ¬ c < a := by omega
   have h3 : c ≠ a := by omega
   have h4 : ¬ c < b := by omega
   have h5 : c ≠ b := by omega
   rcases Int.lt_trichotomy a b with h | h | h
   ·have h1 : ¬ b < a := by omega
    simp [ins, h, h1, h2, h3, h4, h5, hab.symm]
   ·exact absurd h hab
   ·have h1 : ¬ a < b := by omega
    simp [ins, h, h1, h2, h3, h4, h5, hab]
theorem ins_twice (a x y : Int) : ∀ l : Fs, ins a y (ins a x l) = ins a y l
 | [] => by simp [ins]
 | p :: l => by
  obtain ⟨c, z⟩ := p
  rcases Int.lt_trichotomy c a with p1 | p1 | p1
  ·simp [ins, p1, ins_twice a x y l]
  ·subst p1; simp [ins]
  ·have h2 : ¬ c < a := by omega
   have h3 : c ≠ a := by omega
   simp [ins, h2, h3]
/-! item by item -/
def Acc (g e : Int) (t : Fs) (d : Bool) (acc : Fs) : Prop := (d = false → (∀ p ∈ t, p.1 < g) ∧ acc = t) ∧ (d = true → (∃ p ∈ t, g ≤ p.1) ∧ acc = ins g e t)
theorem ins_all {g e : Int} : ∀ {t : Fs} (s : Fs), (∀ p ∈ t, p.1 < g) → ins g e (t ++ s) = t ++ ins g e s
 | [], _, _ => rfl
 | p :: t, s, h => by
  have h1 := h p (by simp)
  have ih := ins_all (e := e) (t := t) s fun q hq => h q (by simp [hq])
  simp only [List.cons_append, ins, h1, if_true, ih]
theorem ins_some {g e : Int} : ∀ {t : Fs} (s : Fs), (∃ p ∈ t, g ≤ p.1) → ins g e (t ++ s) = ins g e t ++ s
 | [], _, h => by obtain ⟨p, hp, _⟩ := h; cases hp
 | p :: t, s, h => by
  by_cases h1 : p.1 < g
  ·have ih := ins_some (g := g) (e := e) (t := t) s (by
    obtain ⟨q, hq, h2⟩ := h
    rcases List.mem_cons.1 hq with rfl | hq
    ·omega
    ·exact ⟨q, hq, h2⟩)
   simp only [List.cons_append, ins, h1, if_true, ih]
  ·simp only [List.cons_append, ins, h1, if_false]
   split <;> rfl
theorem acc_nil (g e : Int) : Acc g e [] false [] := ⟨fun _ => ⟨fun _ h => (by cases h), rfl⟩, fun h => (by cases h)⟩
theorem Acc.len {g e : Int} {t : Fs} {d : Bool} {acc : Fs} (h : Acc g e t d acc) : acc.length ≤ t.length + 1 := by
 cases d with
 | false => rw [(h.1 rfl).2]; omega
 | true => rw [(h.2 rfl).2]; exact ins_len g e t
theorem acc_lt {g e : Int} {t acc : Fs} {p : Int × Int} (h : Acc g e t false acc) (hp : p.1 < g) : Acc g e (t ++ [p]) false (acc ++ [p]) := by
 obtain ⟨h1, rfl⟩ := h.1 rfl
 refine ⟨fun _ => ⟨fun q hq => ?_, rfl⟩, fun h => (by cases h)⟩
 rcases List.mem_append.1 hq with hq | hq
 ·exact h1 q hq
 ·rw [List.mem_singleton.1 hq]; exact hp
theorem acc_eq {g e : Int} {t acc : Fs} {p : Int × Int} (h : Acc g e t false acc) (he : p.1 = g) : Acc g e (t ++ [p]) true (acc ++ [(g, e)]) := by
 obtain ⟨h1, rfl⟩ := h.1 rfl
 refine ⟨fun h => (by cases h), fun _ => ⟨⟨p, by simp, by omega⟩, ?_⟩⟩
 rw [ins_all _ h1]
 simp [ins, he]
theorem acc_gt {g e : Int} {t acc : Fs} {p : Int × Int} (h : Acc g e t false acc) (hp : g < p.1) : Acc g e (t ++ [p]) true (acc ++ [(g, e)] ++ [p]) := by
 obtain ⟨h1, rfl⟩ := h.1 rfl
 refine ⟨fun h => (by cases h), fun _ => ⟨⟨p, by simp, by omega⟩, ?_⟩⟩
 rw [ins_all _ h1]
 have h2 : ¬ p.1 < g := by omega
 have h3 : p.1 ≠ g := by omega
 simp [ins, h2, h3]
theorem acc_in {g e : Int} {t acc : Fs} {p : Int × Int} (h : Acc g e t true acc) : Acc g e (t ++ [p]) true (acc ++ [p]) := by
 obtain ⟨⟨q, hq, h1⟩, rfl⟩ := h.2 rfl
 exact ⟨fun h => (by cases h), fun _ => ⟨⟨q, by simp [hq], h1⟩, (ins_some _ ⟨q, hq, h1⟩).symm⟩⟩
theorem acc_ne {g e : Int} {t acc : Fs} {p : Int × Int} (h : Acc g e t true acc) (hu : Rise (t ++ [p])) : p.1 ≠ g := by
 obtain ⟨⟨q, hq, h1⟩, _⟩ := h.2 rfl
 have := (List.pairwise_append.1 hu).2.2 q hq p (by simp)
 omega
theorem acc_end {g e : Int} {t acc : Fs} (h : Acc g e t false acc) : acc ++ [(g, e)] = ins g e t := by
 obtain ⟨h1, rfl⟩ := h.1 rfl
 have := ins_all (e := e) [] h1
 rw [List.append_nil] at this
 rw [this]
 rfl
/-- the first that may be used, item by item -/
theorem first_none {o : Int} : ∀ {t : Fs} (s : Fs), (∀ p ∈ t, ¬ p.2 ≤ o) → first o (t ++ s) = ((first o s).1, t ++ (first o s).2)
 | [], _, _ => rfl
 | p :: t, s, h => by
  have h1 := h p (by simp)
  have ih := first_none (t := t) s fun q hq => h q (by simp [hq])
  simp only [List.cons_append, first, h1, if_false, ih]
theorem first_some {o x : Int} : ∀ {t : Fs} (s : Fs), (first o t).1 = some x → first o (t ++ s) = (some x, (first o t).2 ++ s)
 | [], _, h => by cases h
 | p :: t, s, h => by
  by_cases h1 : p.2 ≤ o
  ·simp only [first, h1, if_true] at h
   simp only [List.cons_append, first, h1, if_true]
   rw [h]
  ·simp only [first, h1, if_false] at h
   have ih := first_some (t := t) s h
   simp only [List.cons_append, first, h1, if_false, ih]
theorem first_no {o : Int} : ∀ {l : Fs}, (first o l).1 = none → (∀ p ∈ l, ¬ p.2 ≤ o) ∧ (first o l).2 = l
 | [], _ => ⟨fun _ h => (by cases h), rfl⟩
 | p :: l, h => by
  by_cases h1 : p.2 ≤ o
  ·simp [first, h1] at h
  ·simp only [first, h1, if_false] at h ⊢
   obtain ⟨i1, i2⟩ := first_no h
   exact ⟨fun q hq => (by
    rcases List.mem_cons.1 hq with rfl | hq
    ·exact h1
    ·exact i1 q hq), by rw [i2]⟩
end Go.Proofs.YtpidnkfcccboaaaGreat.FreePlain
namespace Go.Proofs.YtpidnkfcccboaaaGreat.FreePlain2
open FreePlain

theorem usable_nil (o : Int) : usable o [] = 0 := rfl
theorem usable_cons (o : Int) (p : Int × Int) (l : Fs) : usable o (p :: l) = (if p.2 ≤ o then 1 else 0) + usable o l := by
 unfold usable
 by_cases h : p.2 ≤ o <;> simp [h] <;> omega
theorem usable_le (o : Int) (l : Fs) : usable o l ≤ l.length := List.length_filter_le _ _
theorem usable_mono {a b : Int} (h : a ≤ b) : ∀ l : Fs, usable a l ≤ usable b l
 | [] => Nat.le_refl _
 | p :: l => by
  have ih := usable_mono h l
  rw [usable_cons, usable_cons]
  by_cases h1 : p.2 ≤ a
  ·have h2 : p.2 ≤ b := by omega
   simp [h1, h2]; omega
  ·by_cases h2 : p.2 ≤ b <;> simp [h1, h2] <;> omega
theorem usable_take {o : Int} {l : Fs} {k : Nat} (h : k < l.length) : usable o (l.take (k + 1)) = usable o (l.take k) + if (l[k]).2 ≤ o then 1 else 0 := by
 unfold usable
 rw [List.take_succ_eq_append_getElem h, List.filter_append, List.length_append]
 by_cases h : (l[k]).2 ≤ o <;> simp [h]
/-- what a taking comes to -/
structure Got (o : Int) (l : Fs) (p : Int) : Prop where
 one : (first o l).1 = some p
 less : usable o (first o l).2 + 1 = usable o l
 len : (first o l).2.length + 1 = l.length
 mem : ∃ e, e ≤ o ∧ (p, e) ∈ l
 low : Rise l → ∀ x ∈ l, x.2 ≤ o → p ≤ x.1
 up : Rise l → ∀ x ∈ (first o l).2, x.2 ≤ o → p < x.1
theorem first_sub (o : Int) : ∀ l : Fs, (first o l).2.Sublist l
 | [] => List.Sublist.refl _
 | p :: l => by
  simp only [first]
  split
  ·exact List.sublist_cons_self p l
  ·exact (first_sub o l).cons_cons p
theorem first_zero {o : Int} : ∀ {l : Fs}, usable o l = 0 → first o l = (none, l)
 | [], _ => rfl
 | p :: l, h => by
  rw [usable_cons] at h
  by_cases h1 : p.2 ≤ o
  ·simp [h1] at h
  ·rw [if_neg h1, Nat.zero_add] at h
   simp only [first, h1, if_false, first_zero (o := o) (l := l) h]
theorem first_got {o : Int} : ∀ {l : Fs}, 0 < usable o l → ∃ p, Got o l p
 | [], h => by simp [usable_nil] at h
 | q :: l, h => by
  by_cases h1 : q.2 ≤ o
  ·have e : first o (q :: l) = (some q.1, l) := by simp [first, h1]
   refine ⟨q.1, by rw [e], by rw [e, usable_cons]; simp [h1]; omega, by rw [e]; simp, ⟨q.2, h1, by simp⟩, fun hr x hx _ => ?_, fun hr x hx _ => ?_⟩
   ·rcases List.mem_cons.1 hx with rfl | hx
    ·omega
    ·have := (rise_cons.1 hr).1 x hx; omega
   ·rw [e] at hx
    exact (rise_cons.1 hr).1 x hx
  ·have e : first o (q :: l) = ((first o l).1, q :: (first o l).2) := by simp [first, h1]
   rw [usable_cons] at h
   rw [if_neg h1, Nat.zero_add] at h
   obtain ⟨p, g⟩ := first_got (o := o) (l := l) h
   obtain ⟨e1, he1, hm⟩ := g.mem
   refine ⟨p, by rw [e]; exact g.one, by rw [e, usable_cons, usable_cons]; simp only [h1, if_false]; have := g.less; omega, by rw [e]; have := g.len; simp; omega, ⟨e1, he1, by simp [hm]⟩, fun hr x hx hxo => ?_, fun hr x hx hxo => ?_⟩
   ·rcases List.mem_cons.1 hx with rfl | hx
    ·exact absurd hxo h1
    ·exact g.low (rise_cons.1 hr).2 x hx hxo
   ·rw [e] at hx
    rcases List.mem_cons.1 hx with rfl | hx
    ·exact absurd hxo h1
    ·exact g.up (rise_cons.1 hr).2 x hx hxo
theorem gd_first {o : Int} {l : Fs} (h : Gd l) : Gd (first o l).2 := ⟨fun p hp => h.1 p ((first_sub o l).subset hp), List.Pairwise.sublist (first_sub o l) h.2⟩
theorem some_iff {o : Int} {l : Fs} : (first o l).1.isSome = decide (0 < usable o l) := by
 rcases Nat.eq_zero_or_pos (usable o l) with h | h
 ·rw [first_zero h]; simp [h]
 ·obtain ⟨p, g⟩ := first_got h
  rw [g.one]; simp [h]
theorem gd_one {p : Int × Int} : Gd [p] ↔ Fit p := ⟨fun h => h.1 p (by simp), fun h => ⟨fun q hq => (by rw [List.mem_singleton.1 hq]; exact h), rise_cons.2 ⟨fun q hq => (by cases hq), List.Pairwise.nil⟩⟩⟩
theorem older {a b : Int} {l : Fs} (hab : a ≤ b) (hr : Rise l) {p : Int} (h : (first a l).1 = some p) : ∃ q, (first b l).1 = some q ∧ q ≤ p := by
 have h1 : 0 < usable a l := by
  have := some_iff (o := a) (l := l)
  rw [h] at this
  simpa using this.symm
 obtain ⟨p', g⟩ := first_got h1
 have e : p' = p := by have := g.one; rw [h] at this; injection this with this; exact this.symm
 subst e
 obtain ⟨q, g'⟩ := first_got (Nat.lt_of_lt_of_le h1 (usable_mono hab l))
 obtain ⟨e, he, hm⟩ := g.mem
 exact ⟨q, g'.one, g'.low hr _ hm (show e ≤ b by omega)⟩
end Go.Proofs.YtpidnkfcccboaaaGreat.FreePlain2
