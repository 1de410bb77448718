/- KeyPlain, TuplePlain. -/
import Derived.Lib.Strings
import Derived.WalkKit
namespace Go.Proofs.YtilcnhdfdgmekaaGreat.KeyPlain

/-! bytes in order -/
theorem bl_nil (l : List UInt8) : Op.bytesLess l [] = false := by cases l <;> rfl
theorem bl_irrefl (l : List UInt8) : Op.bytesLess l l = false := by
  induction l with
  | nil => rfl
  | cons a l ih => simp [Op.bytesLess, ih]
theorem bl_append (p a b : List UInt8) : Op.bytesLess (p ++ a) (p ++ b) = Op.bytesLess a b := by
  induction p with
  | nil => rfl
  | cons c p ih => simp [Op.bytesLess, ih]
theorem bl_take {a b : List UInt8} {k : Nat} (h : a.take k = b.take k) : Op.bytesLess a b = Op.bytesLess (a.drop k) (b.drop k) := by
  have e := bl_append (a.take k) (a.drop k) (b.drop k)
  rw [List.take_append_drop] at e
  rw [h, List.take_append_drop] at e
  exact e
theorem bl_cons_ne {a b : UInt8} (h : a ≠ b) (x y : List UInt8) : Op.bytesLess (a :: x) (b :: y) = decide (a < b) := by
  simp [Op.bytesLess, h]
theorem bl_cons_eq (a : UInt8) (x y : List UInt8) : Op.bytesLess (a :: x) (a :: y) = Op.bytesLess x y := by
  simp [Op.bytesLess]
theorem bl_cons {a b : UInt8} (x y : List UInt8) : Op.bytesLess (a :: x) (b :: y) = if a = b then Op.bytesLess x y else decide (a < b) := by
  by_cases h : a = b
  · subst h; rw [if_pos rfl, bl_cons_eq]
  · rw [if_neg h, bl_cons_ne h]
theorem bl_total (a b : List UInt8) : (Op.bytesLess a b || Op.bytesLess b a) = !(decide (a = b)) := by
  induction a generalizing b with
  | nil => cases b <;> simp [Op.bytesLess]
  | cons c a ih =>
    cases b with
    | nil => simp [Op.bytesLess]
    | cons d b =>
      by_cases h : c = d
      · subst h; simp only [bl_cons_eq, ih]; simp
      · rw [bl_cons_ne h, bl_cons_ne (Ne.symm h)]
        rcases UInt8.lt_or_lt_of_ne h with g | g <;> simp [h, g]
theorem bl_asymm {a b : List UInt8} (h : Op.bytesLess a b = true) : Op.bytesLess b a = false := by
  induction a generalizing b with
  | nil => cases b <;> simp [Op.bytesLess] at h ⊢
  | cons c a ih =>
    cases b with
    | nil => simp [Op.bytesLess] at h
    | cons d b =>
      by_cases e : c = d
      · subst e; rw [bl_cons_eq] at h ⊢; exact ih h
      · rw [bl_cons_ne e] at h
        rw [bl_cons_ne (Ne.symm e)]
        have h' : c < d := of_decide_eq_true h
        simp [UInt8.not_lt.2 (UInt8.le_of_lt h')]
theorem bl_trans {a b c : List UInt8} (h : Op.bytesLess a b = true) (k : Op.bytesLess b c = true) : Op.bytesLess a c = true := by
  induction a generalizing b c with
  | nil =>
    cases c with
    | nil => rw [bl_nil] at k; cases k
    | cons _ _ => simp [Op.bytesLess]
  | cons x a ih =>
    cases b with
    | nil => rw [bl_nil] at h; cases h
    | cons y b =>
      cases c with
      | nil => rw [bl_nil] at k; cases k
      | cons z c =>
        by_cases e : x = y
        · subst e
          rw [bl_cons_eq] at h
          by_cases f : x = z
          · subst f; rw [bl_cons_eq] at k ⊢; exact ih h k
          · rw [bl_cons_ne f] at k ⊢; exact k
        · rw [bl_cons_ne e] at h
          by_cases f : y = z
          · subst f; rw [bl_cons_ne e]; exact h
          · rw [bl_cons_ne f] at k
            have h1 : x < y := of_decide_eq_true h
            have h2 : y < z := of_decide_eq_true k
            have h3 := UInt8.lt_trans h1 h2
            rw [bl_cons_ne (UInt8.ne_of_lt h3)]
            exact decide_eq_true h3

/-! ByteArrays and lists -/
theorem ba_ext {s t : ByteArray} (h : s.data.toList = t.data.toList) : s = t := by
  cases s; cases t; simp only [ByteArray.mk.injEq]; exact Array.toList_inj.1 h
theorem ba_len (s : ByteArray) : s.data.toList.length = s.size := by rw [Array.length_toList]; rfl
theorem ba_take_snoc (s : ByteArray) (k : Nat) (h : k < s.size) : s.data.toList.take (k + 1) = s.data.toList.take k ++ [s[k]] := by
  rw [List.take_succ_eq_append_getElem (by simpa using h)]; rfl
theorem ba_drop_cons (s : ByteArray) (k : Nat) (h : k < s.size) : s.data.toList.drop k = s[k] :: s.data.toList.drop (k + 1) := by
  rw [List.drop_eq_getElem_cons (by simpa using h)]; rfl
theorem toNat_bne (a b : UInt8) : ((a.toNat : Int) != (b.toNat : Int)) = !decide (a = b) := by
  rw [Bool.eq_iff_iff]; simp [← UInt8.toNat_inj]; omega
theorem toNat_beq (a b : UInt8) : ((a.toNat : Int) == (b.toNat : Int)) = decide (a = b) := by
  rw [Bool.eq_iff_iff]; simp [← UInt8.toNat_inj]; omega

/-- how 'below' ends: a byte that differs -/
theorem bl_at {s t : ByteArray} {k : Nat} (h : s.data.toList.take k = t.data.toList.take k) (h1 : k < s.size) (h2 : k < t.size) (hne : ((s[k].toNat : Int) != (t[k].toNat : Int)) = true) :
    Op.bytesLess s.data.toList t.data.toList = decide (s[k].toNat < t[k].toNat) := by
  rw [toNat_bne] at hne
  rw [bl_take h, ba_drop_cons s k h1, ba_drop_cons t k h2, bl_cons_ne (by simpa using hne), decide_eq_decide, UInt8.lt_iff_toNat_lt]
theorem bl_step {s t : ByteArray} {k : Nat} (h : s.data.toList.take k = t.data.toList.take k) (h1 : k < s.size) (h2 : k < t.size) (hne : ((s[k].toNat : Int) != (t[k].toNat : Int)) = false) :
    s.data.toList.take (k + 1) = t.data.toList.take (k + 1) := by
  rw [toNat_bne] at hne
  have e : s[k] = t[k] := by simpa using hne
  rw [ba_take_snoc s k h1, ba_take_snoc t k h2, h, e]
theorem bl_end {s t : ByteArray} {k : Nat} (h : s.data.toList.take k = t.data.toList.take k) (h1 : k ≤ s.size) (h2 : k ≤ t.size) (he : ¬ k < s.size ∨ ¬ k < t.size) :
    Op.bytesLess s.data.toList t.data.toList = decide (s.size < t.size) := by
  rw [bl_take h]
  rcases he with e | e
  · have : s.data.toList.drop k = [] := List.drop_of_length_le (by rw [ba_len]; omega)
    rw [this]
    by_cases g : k < t.size
    · rw [ba_drop_cons t k g]
      have : s.size < t.size := by omega
      simp [Op.bytesLess, this]
    · have h3 : t.data.toList.drop k = [] := List.drop_of_length_le (by rw [ba_len]; omega)
      have : ¬ s.size < t.size := by omega
      simp [h3, Op.bytesLess, this]
  · have : t.data.toList.drop k = [] := List.drop_of_length_le (by rw [ba_len]; omega)
    have : ¬ s.size < t.size := by omega
    simp [*, bl_nil]

theorem ba_beq (s t : ByteArray) : (s.toList == t.toList) = decide (s = t) := by
  rw [Lib.toList_data, Lib.toList_data, Bool.eq_iff_iff]
  simp only [beq_iff_eq, decide_eq_true_eq]
  exact ⟨ba_ext, fun h => by rw [h]⟩
theorem begins_yes (s t : ByteArray) : ((s.extract 0 t.size).toList == t.toList) = decide (t.data.toList <+: s.data.toList) := by
  rw [Lib.toList_data, Lib.toList_data, Lib.extract_data, Bool.eq_iff_iff]
  simp only [beq_iff_eq, decide_eq_true_eq, List.drop_zero, Nat.sub_zero]
  rw [List.prefix_iff_eq_take, ba_len]
  exact eq_comm
theorem begins_no {s t : ByteArray} (h : ¬ t.size ≤ s.size) : false = decide (t.data.toList <+: s.data.toList) := by
  symm
  rw [decide_eq_false_iff_not]
  intro hp
  have := hp.length_le
  rw [ba_len, ba_len] at this
  omega

/-! parts in order -/
def less : List (List UInt8) → List (List UInt8) → Bool
  | _, [] => false
  | [], _ :: _ => true
  | a :: x, b :: y => Op.bytesLess a b || (decide (a = b) && less x y)
theorem less_nil (l : List (List UInt8)) : less l [] = false := by cases l <;> rfl
theorem less_eq (a : List UInt8) (x y : List (List UInt8)) : less (a :: x) (a :: y) = less x y := by simp [less, bl_irrefl]
theorem less_ne {a b : List UInt8} (h : a ≠ b) (x y : List (List UInt8)) : less (a :: x) (b :: y) = Op.bytesLess a b := by simp [less, h]
theorem less_append (p a b : List (List UInt8)) : less (p ++ a) (p ++ b) = less a b := by
  induction p with
  | nil => rfl
  | cons c p ih => rw [List.cons_append, List.cons_append, less_eq, ih]
theorem less_take {a b : List (List UInt8)} {k : Nat} (h : a.take k = b.take k) : less a b = less (a.drop k) (b.drop k) := by
  have e := less_append (a.take k) (a.drop k) (b.drop k)
  rw [List.take_append_drop] at e
  rw [h, List.take_append_drop] at e
  exact e
theorem less_asymm {a b : List (List UInt8)} (h : less a b = true) : less b a = false := by
  induction a generalizing b with
  | nil => cases b <;> simp [less] at h ⊢
  | cons c a ih =>
    cases b with
    | nil => simp [less] at h
    | cons d b =>
      by_cases e : c = d
      · subst e; rw [less_eq] at h ⊢; exact ih h
      · rw [less_ne e] at h
        rw [less_ne (Ne.symm e)]
        exact bl_asymm h
theorem less_total (a b : List (List UInt8)) : (less a b || less b a) = !(decide (a = b)) := by
  induction a generalizing b with
  | nil => cases b <;> simp [less]
  | cons c a ih =>
    cases b with
    | nil => simp [less]
    | cons d b =>
      by_cases h : c = d
      · subst h; rw [less_eq, less_eq, ih]; simp
      · rw [less_ne h, less_ne (Ne.symm h), bl_total]; simp [h]
theorem less_trans {a b c : List (List UInt8)} (h : less a b = true) (k : less b c = true) : less a c = true := by
  induction a generalizing b c with
  | nil =>
    cases c with
    | nil => rw [less_nil] at k; cases k
    | cons _ _ => simp [less]
  | cons x a ih =>
    cases b with
    | nil => rw [less_nil] at h; cases h
    | cons y b =>
      cases c with
      | nil => rw [less_nil] at k; cases k
      | cons z c =>
        by_cases e : x = y
        · subst e
          rw [less_eq] at h
          by_cases f : x = z
          · subst f; rw [less_eq] at k ⊢; exact ih h k
          · rw [less_ne f] at k ⊢; exact k
        · rw [less_ne e] at h
          by_cases f : y = z
          · subst f; rw [less_ne e]; exact h
          · rw [less_ne f] at k
            have h3 := bl_trans h k
            have hne : x ≠ z := fun g => by subst g; rw [bl_irrefl] at h3; cases h3
            rw [less_ne hne]; exact h3

/-- the parts' bytes -/
def lst (ps : List ByteArray) : List (List UInt8) := ps.map (·.data.toList)
theorem lst_len (ps : List ByteArray) : (lst ps).length = ps.length := by simp [lst]
theorem lst_take (ps : List ByteArray) (k : Nat) : (lst ps).take k = lst (ps.take k) := by simp [lst, List.map_take]
theorem lst_drop_cons (ps : List ByteArray) (k : Nat) (h : k < ps.length) : (lst ps).drop k = ps[k].data.toList :: (lst ps).drop (k + 1) := by
  rw [List.drop_eq_getElem_cons (by simpa [lst] using h)]; simp [lst]
theorem lst_inj {ps qs : List ByteArray} (h : lst ps = lst qs) : ps = qs := by
  induction ps generalizing qs with
  | nil => cases qs <;> simp [lst] at h ⊢
  | cons p ps ih =>
    cases qs with
    | nil => simp [lst] at h
    | cons q qs =>
      simp only [lst, List.map_cons, List.cons.injEq] at h
      rw [ba_ext h.1, ih h.2]
theorem lst_take_eq {ps qs : List ByteArray} {k : Nat} (h : ps.take k = qs.take k) : (lst ps).take k = (lst qs).take k := by rw [lst_take, lst_take, h]

/-- one more that is the same -/
theorem same_step {ps qs : List ByteArray} {k : Nat} (h : ps.take k = qs.take k) (h1 : k < ps.length) (h2 : k < qs.length) (e : ps[k] = qs[k]) : ps.take (k + 1) = qs.take (k + 1) := by
  rw [List.take_succ_eq_append_getElem h1, List.take_succ_eq_append_getElem h2, h, e]
theorem same_no {ps qs : List ByteArray} {k : Nat} (h1 : k < ps.length) (h2 : k < qs.length) (e : ps[k] ≠ qs[k]) : false = decide (ps = qs) := by
  symm
  rw [decide_eq_false_iff_not]
  rintro rfl
  exact e rfl
theorem same_yes {ps qs : List ByteArray} {k : Nat} (h : ps.take k = qs.take k) (hl : ps.length = qs.length) (h1 : ¬ k < ps.length) : true = decide (ps = qs) := by
  symm
  rw [decide_eq_true_eq]
  rwa [List.take_of_length_le (by omega), List.take_of_length_le (by omega)] at h
theorem less_at {ps qs : List ByteArray} {k : Nat} (h : ps.take k = qs.take k) (h1 : k < ps.length) (h2 : k < qs.length) (e : ps[k] ≠ qs[k]) :
    less (lst ps) (lst qs) = Op.bytesLess ps[k].data.toList qs[k].data.toList := by
  rw [less_take (lst_take_eq h), lst_drop_cons ps k h1, lst_drop_cons qs k h2, less_ne (fun g => e (ba_ext g))]
theorem less_end {ps qs : List ByteArray} {k : Nat} (h : ps.take k = qs.take k) (h1 : k ≤ ps.length) (h2 : k ≤ qs.length) (he : ¬ k < ps.length ∨ ¬ k < qs.length) :
    less (lst ps) (lst qs) = decide (ps.length < qs.length) := by
  rw [less_take (lst_take_eq h)]
  rcases he with e | e
  · have : (lst ps).drop k = [] := List.drop_of_length_le (by rw [lst_len]; omega)
    rw [this]
    by_cases g : k < qs.length
    · rw [lst_drop_cons qs k g]
      have : ps.length < qs.length := by omega
      simp [less, this]
    · have h3 : (lst qs).drop k = [] := List.drop_of_length_le (by rw [lst_len]; omega)
      have : ¬ ps.length < qs.length := by omega
      simp [h3, less, this]
  · have : (lst qs).drop k = [] := List.drop_of_length_le (by rw [lst_len]; omega)
    have : ¬ ps.length < qs.length := by omega
    simp [*, less_nil]
theorem few_no {ps : List ByteArray} {k : Nat} (h1 : k < ps.length) (h : 200 < ps[k].size) : false = decide ((∀ p ∈ ps, p.size ≤ 200) ∧ ps.length ≤ 20) := by
  symm
  rw [decide_eq_false_iff_not]
  rintro ⟨g, _⟩
  have := g _ (List.getElem_mem h1)
  omega
theorem few_step {ps : List ByteArray} {k : Nat} (h : ∀ p ∈ ps.take k, p.size ≤ 200) (h1 : k < ps.length) (h2 : ps[k].size ≤ 200) : ∀ p ∈ ps.take (k + 1), p.size ≤ 200 := by
  rw [List.take_succ_eq_append_getElem h1]
  intro p hp
  rcases List.mem_append.1 hp with g | g
  · exact h p g
  · rw [List.mem_singleton.1 g]; exact h2
theorem few_end {ps : List ByteArray} {k : Nat} (h : ∀ p ∈ ps.take k, p.size ≤ 200) (h1 : ¬ k < ps.length) : decide ((ps.length : Int) ≤ 20) = decide ((∀ p ∈ ps, p.size ≤ 200) ∧ ps.length ≤ 20) := by
  rw [List.take_of_length_le (by omega)] at h
  rw [decide_eq_decide]
  constructor
  · intro g; exact ⟨h, by omega⟩
  · rintro ⟨_, g⟩; omega

/-! keys -/
def esc : List UInt8 → List UInt8
  | [] => []
  | c :: r => if c = 0 then 0 :: 255 :: esc r else c :: esc r
def kpart (l : List UInt8) : List UInt8 := esc l ++ [0, 0]
def kput : List (List UInt8) → List UInt8
  | [] => []
  | p :: r => kpart p ++ kput r
theorem esc_append (a b : List UInt8) : esc (a ++ b) = esc a ++ esc b := by
  induction a with
  | nil => rfl
  | cons c a ih => by_cases h : c = 0 <;> simp [esc, h, ih]
theorem esc_len (a : List UInt8) : (esc a).length ≤ 2 * a.length := by
  induction a with
  | nil => simp [esc]
  | cons c a ih => by_cases h : c = 0 <;> simp [esc, h] <;> omega
theorem kpart_len (a : List UInt8) : (kpart a).length ≤ 2 * a.length + 2 := by have := esc_len a; simp [kpart]; omega
theorem kput_append (a b : List (List UInt8)) : kput (a ++ b) = kput a ++ kput b := by
  induction a with
  | nil => rfl
  | cons c a ih => simp [kput, ih]
theorem kput_one (a : List UInt8) : kput [a] = kpart a := by simp [kput]
theorem esc_zero (s : ByteArray) (k : Nat) (h : k < s.size) (hz : s[k] = 0) : esc (s.data.toList.take (k + 1)) = esc (s.data.toList.take k) ++ [0] ++ [255] := by
  rw [ba_take_snoc s k h, esc_append, hz]; simp [esc]
theorem esc_other (s : ByteArray) (k : Nat) (h : k < s.size) (hz : ¬ s[k] = 0) : esc (s.data.toList.take (k + 1)) = esc (s.data.toList.take k) ++ [s[k]] := by
  rw [ba_take_snoc s k h, esc_append]; simp [esc, hz]
theorem esc_take_len (s : ByteArray) (k : Nat) : (esc (s.data.toList.take k)).length ≤ 2 * s.size := by
  have h1 := esc_len (s.data.toList.take k)
  have h2 : (s.data.toList.take k).length ≤ s.data.toList.length := List.length_take_le' k _
  rw [ba_len] at h2
  omega

/-- the first part of a key, and what is behind it -/
def kfirst : List UInt8 → Option (List UInt8 × List UInt8)
  | [] => none
  | [_] => none
  | c :: d :: r => if c = 0 then (if d = 0 then some ([], r) else if d = 255 then (kfirst r).map (fun q => (0 :: q.1, q.2)) else none) else (kfirst (d :: r)).map (fun q => (c :: q.1, q.2))
theorem kfirst_esc (p y : List UInt8) : kfirst (esc p ++ y) = (kfirst y).map (fun q => (p ++ q.1, q.2)) := by
  induction p with
  | nil => simp [esc]
  | cons c p ih =>
    by_cases h : c = 0
    · subst h
      simp [esc, kfirst, ih, Function.comp_def]
    · simp only [esc, if_neg h, List.cons_append]
      cases e : esc p ++ y with
      | nil =>
        rw [e] at ih
        have : (kfirst y).map (fun q => (p ++ q.1, q.2)) = none := by rw [← ih]; rfl
        have hy : kfirst y = none := by simpa using this
        simp [kfirst, hy]
      | cons d r =>
        simp only [kfirst, if_neg h]
        rw [← e, ih]
        simp [Option.map_map, Function.comp_def]
theorem kfirst_part (p y : List UInt8) : kfirst (kpart p ++ y) = some (p, y) := by
  have h : kpart p ++ y = esc p ++ (0 :: 0 :: y) := by simp [kpart]
  rw [h, kfirst_esc]
  simp [kfirst]
theorem kput_ne (p : List UInt8) (r : List (List UInt8)) : kput (p :: r) ≠ [] := by simp [kput, kpart]
theorem kput_split {ps qs : List (List UInt8)} {x : List UInt8} (h : kput ps ++ x = kput qs) : ∃ r, qs = ps ++ r ∧ x = kput r := by
  induction ps generalizing qs with
  | nil => exact ⟨qs, rfl, h⟩
  | cons p ps ih =>
    cases qs with
    | nil => simp [kput, kpart] at h
    | cons q qs =>
      simp only [kput, List.append_assoc] at h
      have e := kfirst_part p (kput ps ++ x)
      rw [h, kfirst_part] at e
      simp only [Option.some.injEq, Prod.mk.injEq] at e
      obtain ⟨rfl, e2⟩ := e
      obtain ⟨r, rfl, hx⟩ := ih e2.symm
      exact ⟨r, rfl, hx⟩
theorem kput_inj {ps qs : List (List UInt8)} (h : kput ps = kput qs) : ps = qs := by
  obtain ⟨r, rfl, hr⟩ := kput_split (x := []) ((List.append_nil _).trans h)
  cases r with
  | nil => simp
  | cons q r => exact absurd hr.symm (kput_ne q r)
theorem kput_no {ps : List (List UInt8)} {x : List UInt8} (hx : x ≠ []) (hf : kfirst x = none) (qs : List (List UInt8)) : kput ps ++ x ≠ kput qs := by
  intro h
  obtain ⟨r, _, hr⟩ := kput_split h
  cases r with
  | nil => exact hx hr
  | cons q r =>
    rw [hr, kput, kfirst_part] at hf
    cases hf
theorem kput_begins (ps qs : List (List UInt8)) : (kput ps <+: kput qs) ↔ ps <+: qs := by
  constructor
  · rintro ⟨x, hx⟩
    obtain ⟨r, rfl, _⟩ := kput_split hx
    exact ⟨r, rfl⟩
  · rintro ⟨r, rfl⟩
    exact ⟨kput r, (kput_append ps r).symm⟩
theorem bl_part {p q : List UInt8} (h : p ≠ q) (x y : List UInt8) : Op.bytesLess (kpart p ++ x) (kpart q ++ y) = Op.bytesLess p q := by
  induction p generalizing q with
  | nil =>
    cases q with
    | nil => exact absurd rfl h
    | cons d q =>
      by_cases hd : d = 0
      · subst hd; simp [kpart, esc, Op.bytesLess]
      · have : (0 : UInt8) < d := UInt8.lt_iff_toNat_lt.2 (by have : d.toNat ≠ 0 := fun e => hd (UInt8.toNat_inj.1 e); simp; omega)
        simp [kpart, esc, hd, Op.bytesLess, this]
  | cons c p ih =>
    cases q with
    | nil =>
      by_cases hc : c = 0
      · subst hc; simp [kpart, esc, Op.bytesLess]
      · simp [kpart, esc, hc, Op.bytesLess]
    | cons d q =>
      by_cases e : c = d
      · subst e
        have ih' := ih (q := q) (fun g => h (by rw [g]))
        rw [bl_cons_eq, ← ih']
        by_cases hc : c = 0
        · subst hc; simp only [kpart, esc, if_true, List.cons_append, bl_cons_eq]
        · simp only [kpart, esc, if_neg hc, List.cons_append, bl_cons_eq]
      · rw [bl_cons_ne e]
        by_cases hc : c = 0
        · subst hc
          have hd : d ≠ 0 := Ne.symm e
          simp [kpart, esc, hd, bl_cons_ne e]
        · by_cases hd : d = 0
          · subst hd; simp [kpart, esc, hc, bl_cons_ne e]
          · simp [kpart, esc, hc, hd, bl_cons_ne e]
theorem less_kput (a b : List (List UInt8)) : less a b = Op.bytesLess (kput a) (kput b) := by
  induction a generalizing b with
  | nil =>
    cases b with
    | nil => rfl
    | cons q b =>
      have := kput_ne q b
      cases e : kput (q :: b) with
      | nil => exact absurd e this
      | cons _ _ => simp [less, kput, Op.bytesLess]
  | cons p a ih =>
    cases b with
    | nil => simp [less, kput, bl_nil]
    | cons q b =>
      by_cases e : p = q
      · subst e; rw [less_eq, kput, kput, bl_append, ih]
      · rw [less_ne e, kput, kput, bl_part e]

/-- what is after a text -/
def after : List UInt8 → Option (List UInt8)
  | [] => none
  | c :: l => match after l with
    | some r => some (c :: r)
    | none => if c = 255 then none else some [c + 1]
theorem after_none_iff (l : List UInt8) : after l = none ↔ ∀ c ∈ l, c = 255 := by
  induction l with
  | nil => simp [after]
  | cons c l ih =>
    cases e : after l with
    | none =>
      rw [e] at ih
      by_cases hc : c = 255
      · simp only [after, e, List.mem_cons, forall_eq_or_imp, hc, true_and]
        simpa using ih
      · simp [after, e, hc]
    | some r =>
      rw [e] at ih
      simp only [after, e, List.mem_cons, forall_eq_or_imp]
      simp only [reduceCtorEq, false_iff] at ih ⊢
      exact fun g => ih g.2
theorem after_tail (l : List UInt8) (k : Nat) : after (l ++ List.replicate k 255) = after l := by
  induction l with
  | nil => simp only [List.nil_append, after]; rw [after_none_iff]; intro c hc; exact List.eq_of_mem_replicate hc
  | cons c l ih => simp only [List.cons_append, after, ih]
theorem after_snoc (l : List UInt8) (c : UInt8) (hc : c ≠ 255) : after (l ++ [c]) = some (l ++ [c + 1]) := by
  induction l with
  | nil => simp [after, hc]
  | cons d l ih => simp only [List.cons_append, after, ih]
theorem bl_high {l : List UInt8} (h : ∀ c ∈ l, c = 255) (t : List UInt8) : Op.bytesLess t l = false ↔ l <+: t := by
  induction l generalizing t with
  | nil => simp [bl_nil]
  | cons c l ih =>
    have hc : c = 255 := h c (by simp)
    subst hc
    cases t with
    | nil => simp [Op.bytesLess]
    | cons d t =>
      rw [List.cons_prefix_cons, bl_cons]
      by_cases e : d = 255
      · subst e; rw [if_pos rfl, ih (fun c hc => h c (by simp [hc]))]; simp
      · rw [if_neg e]
        have : d < 255 := UInt8.lt_iff_toNat_lt.2 (by have h1 := UInt8.toNat_lt d; have : d.toNat ≠ 255 := fun g => e (UInt8.toNat_inj.1 (by simpa using g)); simp; omega)
        simp [this, Ne.symm e]
theorem after_spec {s a : List UInt8} (h : after s = some a) (t : List UInt8) : (!Op.bytesLess t s && Op.bytesLess t a) = decide (s <+: t) := by
  induction s generalizing a t with
  | nil => simp [after] at h
  | cons c l ih =>
    cases t with
    | nil => simp [Op.bytesLess]
    | cons d t =>
      cases e : after l with
      | some r =>
        simp only [after, e, Option.some.injEq] at h
        subst h
        by_cases hd : d = c
        · subst hd
          rw [bl_cons_eq, bl_cons_eq, ih e t, decide_eq_decide, List.cons_prefix_cons]
          simp
        · rw [bl_cons_ne hd, bl_cons_ne hd]
          simp [List.cons_prefix_cons, Ne.symm hd]
      | none =>
        have hall := (after_none_iff l).1 e
        by_cases hc : c = 255
        · simp [after, e, hc] at h
        · simp only [after, e, if_neg hc, Option.some.injEq] at h
          subst h
          have hcn : c.toNat ≠ 255 := fun g => hc (UInt8.toNat_inj.1 (by simpa using g))
          have hlt := UInt8.toNat_lt c
          have hs : (c + 1).toNat = c.toNat + 1 := by rw [UInt8.toNat_add]; simp; omega
          by_cases hd : d = c
          · subst hd
            have h1 : d < d + 1 := UInt8.lt_iff_toNat_lt.2 (by omega)
            rw [bl_cons_eq, bl_cons_ne (UInt8.ne_of_lt h1)]
            have := bl_high hall t
            by_cases g : l <+: t
            · rw [this.2 g]; simp [List.cons_prefix_cons, g, h1]
            · have g2 : Op.bytesLess t l = true := by rw [← Bool.not_eq_false]; exact fun k => g (this.1 k)
              simp [List.cons_prefix_cons, g, g2]
          · rw [bl_cons_ne hd, bl_cons]
            have hdn : d.toNat ≠ c.toNat := fun g => hd (UInt8.toNat_inj.1 g)
            by_cases hk : d = c + 1
            · rw [if_pos hk, bl_nil]; simp [List.cons_prefix_cons, Ne.symm hd]
            · rw [if_neg hk]
              have : ¬ (¬ d < c ∧ d < c + 1) := by
                rw [UInt8.lt_iff_toNat_lt, UInt8.lt_iff_toNat_lt, hs]; omega
              simp only [List.cons_prefix_cons, Ne.symm hd, false_and, decide_false]
              rw [Bool.and_eq_false_iff]
              by_cases g : d < c
              · left; simp [g]
              · right; simp only [decide_eq_false_iff_not]; exact fun k => this ⟨g, k⟩
theorem kput_after {a : List (List UInt8)} (h : a ≠ []) : ∃ z, after (kput a) = some z := by
  have : ∃ l, kput a = l ++ [0] := by
    induction a with
    | nil => exact absurd rfl h
    | cons p a ih =>
      cases a with
      | nil => exact ⟨esc p ++ [0], by simp [kput, kpart]⟩
      | cons q a =>
        obtain ⟨l, hl⟩ := ih (by simp)
        exact ⟨kpart p ++ l, by rw [kput, hl]; simp⟩
  obtain ⟨l, hl⟩ := this
  rw [hl]
  exact ⟨_, after_snoc l 0 (by decide)⟩
theorem kput_len (ps : List (List UInt8)) (h : ∀ p ∈ ps, p.length ≤ 200) : (kput ps).length ≤ 402 * ps.length := by
  induction ps with
  | nil => simp [kput]
  | cons p ps ih =>
    have h1 := h p (by simp)
    have h2 := kpart_len p
    have h3 := ih (fun q hq => h q (by simp [hq]))
    simp only [kput, List.length_append, List.length_cons]
    omega

theorem kput_len_ge (l : List (List UInt8)) : l.length ≤ (kput l).length := by
  induction l with
  | nil => simp
  | cons c l ih => simp [kput, kpart]; omega
theorem lst_of (qs : List (List UInt8)) : ∃ ps : List ByteArray, lst ps = qs := ⟨qs.map (fun l => ⟨l.toArray⟩), by simp [lst, Function.comp_def]⟩
theorem begins_take (ps qs : List ByteArray) : decide (ps = qs.take ps.length) = decide (kput (lst ps) <+: kput (lst qs)) := by
  rw [decide_eq_decide, kput_begins, List.prefix_iff_eq_take, lst_len, lst_take]
  exact ⟨fun e => by rw [← e], lst_inj⟩
theorem begins_long {ps qs : List ByteArray} (h : ¬ ps.length ≤ qs.length) : decide (kput (lst ps) <+: kput (lst qs)) = false := by
  rw [decide_eq_false_iff_not, kput_begins]
  intro g
  have := g.length_le
  rw [lst_len, lst_len] at this
  omega
theorem lst_append (ps qs : List ByteArray) : lst (ps ++ qs) = lst ps ++ lst qs := by simp [lst]

/-! numbers as bytes, the highest first -/
def val : List UInt8 → Nat
  | [] => 0
  | c :: l => c.toNat * 256 ^ l.length + val l
def be : Nat → Nat → List UInt8
  | 0, _ => []
  | k + 1, n => be k (n / 256) ++ [UInt8.ofNat (n % 256)]
theorem be_len (k n : Nat) : (be k n).length = k := by
  induction k generalizing n with
  | zero => rfl
  | succ k ih => simp [be, ih]
theorem be_cons (k n : Nat) : be (k + 1) n = UInt8.ofNat (n / 256 ^ k % 256) :: be k n := by
  induction k generalizing n with
  | zero => simp [be]
  | succ k ih =>
    rw [be, ih]
    simp only [be, List.cons_append, List.cons.injEq, and_true]
    rw [Nat.div_div_eq_div_mul, Nat.pow_succ, Nat.mul_comm]
theorem val_lt (l : List UInt8) : val l < 256 ^ l.length := by
  induction l with
  | nil => simp [val]
  | cons c l ih =>
    have hc : c.toNat < 256 := UInt8.toNat_lt c
    simp only [val, List.length_cons, Nat.pow_succ]
    have : c.toNat * 256 ^ l.length ≤ 255 * 256 ^ l.length := Nat.mul_le_mul_right _ (by omega)
    omega
theorem val_snoc (l : List UInt8) (c : UInt8) : val (l ++ [c]) = val l * 256 + c.toNat := by
  induction l with
  | nil => simp [val]
  | cons d l ih =>
    simp only [List.cons_append, val, ih, List.length_append, List.length_cons, List.length_nil, Nat.zero_add, Nat.pow_succ]
    rw [Nat.add_mul, Nat.mul_assoc, Nat.add_assoc]
theorem val_be (k n : Nat) (h : n < 256 ^ k) : val (be k n) = n := by
  induction k generalizing n with
  | zero => simp at h; subst h; rfl
  | succ k ih =>
    rw [be, val_snoc, ih (n / 256) (by rw [Nat.pow_succ] at h; omega)]
    have : (UInt8.ofNat (n % 256)).toNat = n % 256 := by simp
    omega
theorem be_val (l : List UInt8) : be l.length (val l) = l := by
  induction l with
  | nil => rfl
  | cons c l ih =>
    have hl := val_lt l
    have hp : 0 < 256 ^ l.length := Nat.pow_pos (by omega)
    rw [List.length_cons, be_cons]
    have e1 : val (c :: l) / 256 ^ l.length = c.toNat := by
      simp only [val]
      rw [Nat.mul_comm, Nat.mul_add_div hp, Nat.div_eq_of_lt hl, Nat.add_zero]
    have e2 : be l.length (val (c :: l)) = be l.length (val l) := by
      have : ∀ (k a b : Nat), be k (a * 256 ^ k + b) = be k b := by
        intro k
        induction k with
        | zero => intros; rfl
        | succ k ih =>
          intro a b
          have e : a * 256 ^ (k + 1) + b = 256 * (a * 256 ^ k) + b := by rw [Nat.pow_succ, Nat.mul_comm 256, Nat.mul_assoc]
          simp only [be]
          rw [e, Nat.mul_add_div (by omega), ih, Nat.mul_add_mod]
      exact this _ _ _
    rw [e1, e2, ih]
    congr 1
    have hc : c.toNat < 256 := UInt8.toNat_lt c
    rw [Nat.mod_eq_of_lt hc]
    simp
theorem bl_val (a b : List UInt8) (h : a.length = b.length) : Op.bytesLess a b = decide (val a < val b) := by
  induction a generalizing b with
  | nil => cases b <;> simp [Op.bytesLess, val] at h ⊢
  | cons c a ih =>
    cases b with
    | nil => simp at h
    | cons d b =>
      simp only [List.length_cons, Nat.add_right_cancel_iff] at h
      have ha := val_lt a
      have hb := val_lt b
      rw [bl_cons]
      by_cases e : c = d
      · subst e
        rw [if_pos rfl, ih b h, decide_eq_decide]
        simp only [val, h]
        omega
      · rw [if_neg e, decide_eq_decide, UInt8.lt_iff_toNat_lt]
        simp only [val, h]
        rw [h] at ha
        have hne : c.toNat ≠ d.toNat := fun g => e (UInt8.toNat_inj.1 g)
        constructor
        · intro g
          have : (c.toNat + 1) * 256 ^ b.length ≤ d.toNat * 256 ^ b.length := Nat.mul_le_mul_right _ (by omega)
          rw [Nat.add_mul] at this
          omega
        · intro g
          rcases Nat.lt_or_ge c.toNat d.toNat with k | k
          · exact k
          · have : (d.toNat + 1) * 256 ^ b.length ≤ c.toNat * 256 ^ b.length := Nat.mul_le_mul_right _ (by omega)
            rw [Nat.add_mul] at this
            omega
theorem bl_be (n m : Nat) (hn : n < 256 ^ 8) (hm : m < 256 ^ 8) : Op.bytesLess (be 8 n) (be 8 m) = decide (n < m) := by
  rw [bl_val _ _ (by rw [be_len, be_len]), val_be 8 n hn, val_be 8 m hm]
theorem or_byte (m : Nat) (c : UInt8) : (m * 256) ||| c.toNat = m * 256 + c.toNat := by
  have h := Nat.shiftLeft_add_eq_or_of_lt (UInt8.toNat_lt c) m
  simp only [Nat.shiftLeft_eq] at h
  exact h.symm
end Go.Proofs.YtilcnhdfdgmekaaGreat.KeyPlain
namespace Go.Proofs.YtilcnhdfdgmekaaGreat.TuplePlain
open KeyPlain

def low (c : UInt8) : Bool := decide (97 ≤ c) && decide (c ≤ 122)
def dig (c : UInt8) : Bool := decide (48 ≤ c) && decide (c ≤ 57)
def nch (c : UInt8) : Bool := low c || dig c || c == 95
def ich (c : UInt8) : Bool := low c || dig c || c == 95 || c == 45 || c == 46
/-- a name -/
def nameL : List UInt8 → Bool
  | [] => false
  | c :: r => low c && r.all nch && decide (r.length ≤ 11)
/-- an object's name -/
def idL (l : List UInt8) : Bool := l.all ich && decide (1 ≤ l.length) && decide (l.length ≤ 16)
structure Us where
  k : ByteArray
  i : ByteArray
  r : ByteArray
structure Tp where
  k : ByteArray
  i : ByteArray
  r : ByteArray
  u : Us
abbrev bl (s : ByteArray) : List UInt8 := s.data.toList
def relL (s : ByteArray) : Bool := decide (s.size = 0) || nameL (bl s)
def Us.ok (u : Us) : Bool := nameL (bl u.k) && idL (bl u.i) && relL u.r
def Tp.ok (t : Tp) : Bool := nameL (bl t.k) && idL (bl t.i) && nameL (bl t.r) && t.u.ok
def Us.show (u : Us) : List UInt8 := bl u.k ++ 58 :: (bl u.i ++ if u.r.size = 0 then [] else 35 :: bl u.r)
def Tp.show (t : Tp) : List UInt8 := bl t.k ++ 58 :: (bl t.i ++ 35 :: (bl t.r ++ 64 :: t.u.show))
/-- a tuple's object with its relation, as a user -/
def Tp.obj (t : Tp) : Us := ⟨t.k, t.i, t.r⟩
def Tp.parts (t : Tp) : List ByteArray := [t.k, t.i, t.r, t.u.k, t.u.i, t.u.r]
def Tp.backs (t : Tp) : List ByteArray := [t.u.k, t.u.i, t.u.r, t.k, t.i, t.r]
abbrev sf : ByteArray := ⟨#[102]⟩
abbrev sr : ByteArray := ⟨#[114]⟩
def Tp.key (t : Tp) : List UInt8 := kput (lst (sf :: t.parts))
def Tp.back (t : Tp) : List UInt8 := kput (lst (sr :: t.backs))
def zus : Us := ⟨⟨#[]⟩, ⟨#[]⟩, ⟨#[]⟩⟩
def ztp : Tp := ⟨⟨#[]⟩, ⟨#[]⟩, ⟨#[]⟩, zus⟩

/-! letters -/
theorem ba_of {a b : ByteArray} (h : bl a = bl b) : a = b := by
  cases a; cases b
  simp only [ByteArray.mk.injEq]
  exact Array.ext' h
theorem bl_size (a : ByteArray) : (bl a).length = a.size := rfl
theorem size_zero {a : ByteArray} (h : a.size = 0) : a = ⟨#[]⟩ := ba_of (List.eq_nil_of_length_eq_zero h)
/-- what no name holds -/
def Odd (c : UInt8) : Prop := c = 58 ∨ c = 35 ∨ c = 64 ∨ c = 0
theorem nch_odd {c : UInt8} (h : nch c = true) : ¬ Odd c := by
  rintro (rfl | rfl | rfl | rfl) <;> exact absurd h (by decide)
theorem ich_odd {c : UInt8} (h : ich c = true) : ¬ Odd c := by
  rintro (rfl | rfl | rfl | rfl) <;> exact absurd h (by decide)
theorem low_odd {c : UInt8} (h : low c = true) : ¬ Odd c := nch_odd (by unfold nch; rw [h]; rfl)
theorem name_odd {l : List UInt8} (h : nameL l = true) {c : UInt8} (hc : Odd c) : c ∉ l := by
  cases l with
  | nil => simp
  | cons d r =>
    simp only [nameL, Bool.and_eq_true, List.all_eq_true] at h
    intro hm
    rcases List.mem_cons.1 hm with rfl | hm
    · exact low_odd h.1.1 hc
    · exact nch_odd (h.1.2 c hm) hc
theorem name_len {l : List UInt8} (h : nameL l = true) : 1 ≤ l.length ∧ l.length ≤ 12 := by
  cases l with
  | nil => cases h
  | cons d r =>
    simp only [nameL, Bool.and_eq_true, decide_eq_true_eq] at h
    simp only [List.length_cons]
    omega
theorem id_odd {l : List UInt8} (h : idL l = true) {c : UInt8} (hc : Odd c) : c ∉ l := by
  simp only [idL, Bool.and_eq_true, List.all_eq_true] at h
  exact fun hm => ich_odd (h.1.1 c hm) hc
theorem id_len {l : List UInt8} (h : idL l = true) : 1 ≤ l.length ∧ l.length ≤ 16 := by
  simp only [idL, Bool.and_eq_true, decide_eq_true_eq] at h
  exact ⟨h.1.2, h.2⟩
theorem rel_odd {s : ByteArray} (h : relL s = true) {c : UInt8} (hc : Odd c) : c ∉ bl s := by
  simp only [relL, Bool.or_eq_true, decide_eq_true_eq] at h
  rcases h with h | h
  · rw [size_zero h]; exact (by simp)
  · exact name_odd h hc
theorem rel_len {s : ByteArray} (h : relL s = true) : s.size ≤ 12 := by
  simp only [relL, Bool.or_eq_true, decide_eq_true_eq] at h
  rcases h with h | h
  · omega
  · exact (name_len h).2
theorem rel_of_name {s : ByteArray} (h : nameL (bl s) = true) : relL s = true := by unfold relL; rw [h, Bool.or_true]
theorem Us.okE {u : Us} (h : u.ok = true) : nameL (bl u.k) = true ∧ idL (bl u.i) = true ∧ relL u.r = true := by
  simp only [Us.ok, Bool.and_eq_true] at h
  exact ⟨h.1.1, h.1.2, h.2⟩
theorem Tp.okE {t : Tp} (h : t.ok = true) : nameL (bl t.k) = true ∧ idL (bl t.i) = true ∧ nameL (bl t.r) = true ∧ t.u.ok = true := by
  simp only [Tp.ok, Bool.and_eq_true] at h
  exact ⟨h.1.1.1, h.1.1.2, h.1.2, h.2⟩
theorem Tp.obj_ok {t : Tp} (h : t.ok = true) : t.obj.ok = true := by
  obtain ⟨a, b, c, _⟩ := t.okE h
  simp only [Us.ok, Tp.obj, Bool.and_eq_true]
  exact ⟨⟨a, b⟩, rel_of_name c⟩

/-! texts tell what they show -/
theorem split_at {c : UInt8} : ∀ {a b x y : List UInt8}, c ∉ a → c ∉ b → a ++ c :: x = b ++ c :: y → a = b ∧ x = y
  | [], [], _, _, _, _, h => ⟨rfl, by simpa using h⟩
  | [], d :: b, _, _, _, hb, h => by
    injection h with h1 h2
    subst h1
    exact absurd (by simp) hb
  | d :: a, [], _, _, ha, _, h => by
    injection h with h1 h2
    subst h1
    exact absurd (by simp) ha
  | d :: a, e :: b, x, y, ha, hb, h => by
    injection h with h1 h2
    obtain ⟨h3, h4⟩ := split_at (fun m => ha (List.mem_cons_of_mem _ m)) (fun m => hb (List.mem_cons_of_mem _ m)) h2
    exact ⟨by rw [h1, h3], h4⟩
theorem Us.show_inj {u v : Us} (hu : u.ok = true) (hv : v.ok = true) (h : u.show = v.show) : u = v := by
  obtain ⟨a1, a2, a3⟩ := u.okE hu
  obtain ⟨b1, b2, b3⟩ := v.okE hv
  obtain ⟨e1, e2⟩ := split_at (name_odd a1 (Or.inl rfl)) (name_odd b1 (Or.inl rfl)) h
  have h35 : Odd 35 := Or.inr (Or.inl rfl)
  have e3 : u.i = v.i ∧ u.r = v.r := by
    by_cases hz : u.r.size = 0 <;> by_cases hy : v.r.size = 0
    · rw [if_pos hz, if_pos hy, List.append_nil, List.append_nil] at e2
      exact ⟨ba_of e2, by rw [size_zero hz, size_zero hy]⟩
    · rw [if_pos hz, if_neg hy, List.append_nil] at e2
      exact absurd (by rw [e2]; simp) (id_odd a2 h35)
    · rw [if_neg hz, if_pos hy, List.append_nil] at e2
      exact absurd (by rw [← e2]; simp) (id_odd b2 h35)
    · rw [if_neg hz, if_neg hy] at e2
      obtain ⟨e3, e4⟩ := split_at (id_odd a2 h35) (id_odd b2 h35) e2
      exact ⟨ba_of e3, ba_of e4⟩
  obtain ⟨k, i, r⟩ := u
  obtain ⟨k', i', r'⟩ := v
  simp only [Us.mk.injEq]
  exact ⟨ba_of e1, e3⟩
theorem Tp.show_inj {t v : Tp} (ht : t.ok = true) (hv : v.ok = true) (h : t.show = v.show) : t = v := by
  obtain ⟨a1, a2, a3, a4⟩ := t.okE ht
  obtain ⟨b1, b2, b3, b4⟩ := v.okE hv
  obtain ⟨e1, h⟩ := split_at (name_odd a1 (Or.inl rfl)) (name_odd b1 (Or.inl rfl)) h
  have h35 : Odd 35 := Or.inr (Or.inl rfl)
  have h64 : Odd 64 := Or.inr (Or.inr (Or.inl rfl))
  obtain ⟨e2, h⟩ := split_at (id_odd a2 h35) (id_odd b2 h35) h
  obtain ⟨e3, h⟩ := split_at (name_odd a3 h64) (name_odd b3 h64) h
  have e4 := Us.show_inj a4 b4 h
  obtain ⟨k, i, r, u⟩ := t
  obtain ⟨k', i', r', u'⟩ := v
  simp only [Tp.mk.injEq]
  exact ⟨ba_of e1, ba_of e2, ba_of e3, e4⟩
theorem Us.show_rel {u : Us} (h : u.r.size ≠ 0) : u.show = bl u.k ++ 58 :: (bl u.i ++ 35 :: bl u.r) := by unfold Us.show; rw [if_neg h]
theorem name_ne {s : ByteArray} (h : nameL (bl s) = true) : s.size ≠ 0 := by have := (name_len h).1; rw [bl_size] at this; omega
/-- a tuple's text is its object's, and its user's -/
theorem Tp.show_two {t : Tp} (h : t.ok = true) : t.show = t.obj.show ++ 64 :: t.u.show := by
  have h1 := t.okE h
  rw [Us.show_rel (u := t.obj) (name_ne h1.2.2.1)]
  simp [Tp.show, Tp.obj]
/-- of a text with @ in it: whose it is -/
theorem Tp.show_parts {t : Tp} (h : t.ok = true) {a b : List UInt8} (ha : (64 : UInt8) ∉ a) (he : t.show = a ++ 64 :: b) : t.obj.show = a ∧ t.u.show = b := by
  rw [t.show_two h] at he
  refine split_at ?_ ha he
  have h1 := (t.obj_ok h)
  obtain ⟨c1, c2, c3⟩ := Us.okE h1
  have h64 : Odd 64 := Or.inr (Or.inr (Or.inl rfl))
  intro hm
  simp only [Us.show, List.mem_append, List.mem_cons] at hm
  rcases hm with hm | hm | hm | hm
  · exact name_odd c1 h64 hm
  · exact absurd hm (by decide)
  · exact id_odd c2 h64 hm
  · split at hm
    · cases hm
    · rcases List.mem_cons.1 hm with hm | hm
      · exact absurd hm (by decide)
      · exact rel_odd c3 h64 hm

/-! keys -/
theorem esc_id : ∀ {l : List UInt8}, (0 : UInt8) ∉ l → esc l = l
  | [], _ => rfl
  | c :: l, h => by
    have hc : c ≠ 0 := fun e => h (by rw [e]; simp)
    simp only [esc, if_neg hc, esc_id (fun m => h (List.mem_cons_of_mem _ m))]
theorem kpart_len {l : List UInt8} (h : (0 : UInt8) ∉ l) : (kpart l).length = l.length + 2 := by simp [kpart, esc_id h]
theorem kput_cons_len (p : ByteArray) (ps : List ByteArray) (h : (0 : UInt8) ∉ bl p) : (kput (lst (p :: ps))).length = p.size + 2 + (kput (lst ps)).length := by
  show (kpart (bl p) ++ kput (lst ps)).length = _
  rw [List.length_append, kpart_len h, bl_size]
theorem Tp.zeros {t : Tp} (h : t.ok = true) : ∀ p ∈ t.parts, (0 : UInt8) ∉ bl p := by
  obtain ⟨a1, a2, a3, a4⟩ := t.okE h
  obtain ⟨b1, b2, b3⟩ := Us.okE a4
  have h0 : Odd 0 := Or.inr (Or.inr (Or.inr rfl))
  intro p hp
  simp only [Tp.parts, List.mem_cons, List.not_mem_nil, or_false] at hp
  rcases hp with rfl | rfl | rfl | rfl | rfl | rfl
  · exact name_odd a1 h0
  · exact id_odd a2 h0
  · exact name_odd a3 h0
  · exact name_odd b1 h0
  · exact id_odd b2 h0
  · exact rel_odd b3 h0
theorem Tp.key_len {t : Tp} (h : t.ok = true) : t.key.length ≤ 95 ∧ t.back.length = t.key.length := by
  obtain ⟨a1, a2, a3, a4⟩ := t.okE h
  obtain ⟨b1, b2, b3⟩ := Us.okE a4
  have z := t.zeros h
  have k1 := (name_len a1).2; have k2 := (id_len a2).2; have k3 := (name_len a3).2
  have k4 := (name_len b1).2; have k5 := (id_len b2).2; have k6 := rel_len b3
  rw [bl_size] at k1 k2 k3 k4 k5
  have m : ∀ q, q ∈ t.parts → (0 : UInt8) ∉ bl q := z
  simp only [Tp.parts, List.mem_cons, List.not_mem_nil, or_false] at m
  have hn : (kput (lst [])).length = 0 := rfl
  have e1 : t.key.length = 3 + (t.k.size + 2) + (t.i.size + 2) + (t.r.size + 2) + (t.u.k.size + 2) + (t.u.i.size + 2) + (t.u.r.size + 2) := by
    unfold Tp.key Tp.parts
    rw [kput_cons_len _ _ (by decide), kput_cons_len _ _ (m _ (by simp)), kput_cons_len _ _ (m _ (by simp)), kput_cons_len _ _ (m _ (by simp)), kput_cons_len _ _ (m _ (by simp)), kput_cons_len _ _ (m _ (by simp)), kput_cons_len _ _ (m _ (by simp)), hn]
    show 1 + 2 + _ = _
    omega
  have e2 : t.back.length = 3 + (t.k.size + 2) + (t.i.size + 2) + (t.r.size + 2) + (t.u.k.size + 2) + (t.u.i.size + 2) + (t.u.r.size + 2) := by
    unfold Tp.back Tp.backs
    rw [kput_cons_len _ _ (by decide), kput_cons_len _ _ (m _ (by simp)), kput_cons_len _ _ (m _ (by simp)), kput_cons_len _ _ (m _ (by simp)), kput_cons_len _ _ (m _ (by simp)), kput_cons_len _ _ (m _ (by simp)), kput_cons_len _ _ (m _ (by simp)), hn]
    show 1 + 2 + _ = _
    omega
  omega
theorem lst_inj {ps qs : List ByteArray} (h : lst ps = lst qs) : ps = qs := by
  induction ps generalizing qs with
  | nil => cases qs with
    | nil => rfl
    | cons q qs => cases h
  | cons p ps ih => cases qs with
    | nil => cases h
    | cons q qs =>
      simp only [lst, List.map_cons, List.cons.injEq] at h
      rw [ba_of h.1, ih h.2]
theorem parts_inj {t v : Tp} (h : t.parts = v.parts) : t = v := by
  obtain ⟨k, i, r, ⟨a, b, c⟩⟩ := t
  obtain ⟨k', i', r', ⟨a', b', c'⟩⟩ := v
  simpa [Tp.parts] using h
theorem backs_inj {t v : Tp} (h : t.backs = v.backs) : t = v := by
  obtain ⟨k, i, r, ⟨a, b, c⟩⟩ := t
  obtain ⟨k', i', r', ⟨a', b', c'⟩⟩ := v
  simp only [Tp.backs, List.cons.injEq, and_true] at h
  simp [h]
theorem key_inj {t v : Tp} (h : t.key = v.key) : t = v := by
  have h1 := lst_inj (kput_inj h)
  injection h1 with _ h1
  exact parts_inj h1
theorem back_inj {t v : Tp} (h : t.back = v.back) : t = v := by
  have h1 := lst_inj (kput_inj h)
  injection h1 with _ h1
  exact backs_inj h1
theorem key_back (t v : Tp) : t.key ≠ v.back := fun h => by
  have h1 := lst_inj (kput_inj h)
  injection h1 with h1 _
  exact absurd h1 (by decide)
theorem less_key (t v : Tp) : less (lst t.parts) (lst v.parts) = Op.bytesLess t.key v.key := by
  unfold Tp.key
  rw [← less_kput]
  simp [lst, less, bl_irrefl]
theorem less_back (t v : Tp) : less (lst t.backs) (lst v.backs) = Op.bytesLess t.back v.back := by
  unfold Tp.back
  rw [← less_kput]
  simp [lst, less, bl_irrefl]

/-! what reading tells: a user, a tuple, of bytes; none: it is no text of one that may be -/
def RdU (s : List UInt8) (o : Option Us) : Prop := match o with
  | some u => u.ok = true ∧ u.show = s
  | none => ∀ u : Us, u.ok = true → u.show ≠ s
def RdT (s : List UInt8) (o : Option Tp) : Prop := match o with
  | some t => t.ok = true ∧ t.show = s
  | none => ∀ t : Tp, t.ok = true → t.show ≠ s
def RdK (s : List UInt8) (o : Option (Tp × Bool)) : Prop := match o with
  | some (t, b) => t.ok = true ∧ (if b then t.back else t.key) = s
  | none => ∀ t : Tp, t.ok = true → t.back ≠ s ∧ t.key ≠ s
theorem RdU.shown {u : Us} (h : u.ok = true) {o : Option Us} (hr : RdU u.show o) : o = some u := by
  cases o with
  | none => exact absurd rfl (hr u h)
  | some v => rw [Us.show_inj hr.1 h hr.2]
theorem RdT.shown {t : Tp} (h : t.ok = true) {o : Option Tp} (hr : RdT t.show o) : o = some t := by
  cases o with
  | none => exact absurd rfl (hr t h)
  | some v => rw [Tp.show_inj hr.1 h hr.2]
theorem RdK.key {t : Tp} (h : t.ok = true) {o : Option (Tp × Bool)} (hr : RdK t.key o) : o = some (t, false) := by
  cases o with
  | none => exact absurd rfl (hr t h).2
  | some v =>
    obtain ⟨v, b⟩ := v
    cases b with
    | false => rw [key_inj (show v.key = t.key from hr.2)]
    | true => exact absurd (show v.back = t.key from hr.2).symm (key_back t v)
theorem RdK.back {t : Tp} (h : t.ok = true) {o : Option (Tp × Bool)} (hr : RdK t.back o) : o = some (t, true) := by
  cases o with
  | none => exact absurd rfl (hr t h).1
  | some v =>
    obtain ⟨v, b⟩ := v
    cases b with
    | true => rw [back_inj (show v.back = t.back from hr.2)]
    | false => exact absurd (show v.key = t.back from hr.2) (key_back v t)
end Go.Proofs.YtilcnhdfdgmekaaGreat.TuplePlain
