/- Str, FactsPlain. -/
import Derived.Test.YtilcnhdfdgmekaaGreatKTuplePlain
import Derived.Lib.Strings
import Derived.WalkKit
namespace Go.Proofs.YtilcnhdfdgmekaaGreat.Str
open Go.RowKit

theorem ba_ext {s t : ByteArray} (h : s.data.toList = t.data.toList) : s = t := by
  cases s; cases t; simp only [ByteArray.mk.injEq]; exact Array.toList_inj.1 h
theorem ba_beq (s t : ByteArray) : (s.toList == t.toList) = decide (s = t) := by
  rw [Lib.toList_data, Lib.toList_data, Bool.eq_iff_iff]
  simp only [beq_iff_eq, decide_eq_true_eq]
  exact ⟨ba_ext, fun h => by rw [h]⟩
theorem ba_beq_mk (s : ByteArray) (l : List UInt8) : (s.toList == (⟨l.toArray⟩ : ByteArray).toList) = decide (s.data.toList = l) := by
  rw [ba_beq]
  apply decide_eq_decide.2
  constructor
  · intro h; rw [h]
  · intro h; exact ba_ext (by rw [h])
theorem append_mk (l m : List UInt8) : (⟨l.toArray⟩ : ByteArray) ++ ⟨m.toArray⟩ = ⟨(l ++ m).toArray⟩ := ba_ext (by simp)
end Go.Proofs.YtilcnhdfdgmekaaGreat.Str
namespace Go.Proofs.YtilcnhdfdgmekaaGreat.FactsPlain
open KeyPlain TuplePlain

/-! any set in order -/
section
variable {α : Type} [DecidableEq α] (lt : α → α → Bool)
/-- an order: of two one is ahead, unless they are the same -/
structure Ord : Prop where
  irr : ∀ a, lt a a = false
  tot : ∀ a b, lt a b = false → lt b a = false → a = b
  tra : ∀ a b c, lt a b = true → lt b c = true → lt a c = true
def ins (t : α) : List α → List α
  | [] => [t]
  | x :: l => if lt t x then t :: x :: l else x :: ins t l
def put (m : List α) (t : α) : List α := if t ∈ m then m else ins lt t m
def mk (l : List α) : List α := l.foldl (put lt) []
def Up (m : List α) : Prop := m.Pairwise fun a b => lt a b = true
variable {lt}
omit [DecidableEq α] in
theorem ins_mem {t x : α} : ∀ {m : List α}, x ∈ ins lt t m ↔ x = t ∨ x ∈ m
  | [] => by simp [ins]
  | y :: l => by
    unfold ins
    split
    · simp
    · rw [List.mem_cons, ins_mem (m := l), List.mem_cons]
      constructor
      · rintro (h | h | h)
        · exact Or.inr (Or.inl h)
        · exact Or.inl h
        · exact Or.inr (Or.inr h)
      · rintro (h | h | h)
        · exact Or.inr (Or.inl h)
        · exact Or.inl h
        · exact Or.inr (Or.inr h)
omit [DecidableEq α] in
theorem ins_up (O : Ord lt) {t : α} : ∀ {m : List α}, Up lt m → t ∉ m → Up lt (ins lt t m)
  | [], _, _ => by simp [ins, Up]
  | y :: l, h, hn => by
    unfold Up at h ⊢
    rw [List.pairwise_cons] at h
    unfold ins
    split
    · next g =>
      rw [List.pairwise_cons]
      refine ⟨fun b hb => ?_, List.pairwise_cons.2 h⟩
      rcases List.mem_cons.1 hb with rfl | hb
      · exact g
      · exact O.tra _ _ _ g (h.1 b hb)
    · next g =>
      rw [List.pairwise_cons]
      refine ⟨fun b hb => ?_, ins_up O h.2 fun k => hn (by simp [k])⟩
      rcases ins_mem.1 hb with rfl | hb
      · cases e : lt y b with
        | true => rfl
        | false => exact absurd (O.tot _ _ (by simpa using g) e) (fun k => hn (by simp [k]))
      · exact h.1 b hb
theorem put_mem {m : List α} {t x : α} : x ∈ put lt m t ↔ x = t ∨ x ∈ m := by
  unfold put
  split
  · next h => exact ⟨Or.inr, fun k => k.elim (fun e => e ▸ h) id⟩
  · exact ins_mem
theorem put_up (O : Ord lt) {m : List α} (h : Up lt m) (t : α) : Up lt (put lt m t) := by
  unfold put
  split
  · exact h
  · next hn => exact ins_up O h hn
theorem fold_mem {x : α} : ∀ (l m : List α), x ∈ l.foldl (put lt) m ↔ x ∈ l ∨ x ∈ m
  | [], m => by simp
  | t :: l, m => by
    rw [List.foldl_cons, fold_mem l, put_mem, List.mem_cons]
    constructor
    · rintro (h | h | h)
      · exact Or.inl (Or.inr h)
      · exact Or.inl (Or.inl h)
      · exact Or.inr h
    · rintro ((h | h) | h)
      · exact Or.inr (Or.inl h)
      · exact Or.inl h
      · exact Or.inr (Or.inr h)
theorem fold_up (O : Ord lt) : ∀ (l m : List α), Up lt m → Up lt (l.foldl (put lt) m)
  | [], _, h => h
  | t :: l, m, h => by
    rw [List.foldl_cons]
    exact fold_up O l _ (put_up O h t)
theorem mk_mem {l : List α} {x : α} : x ∈ mk lt l ↔ x ∈ l := by
  unfold mk
  rw [fold_mem]
  simp
theorem mk_up (O : Ord lt) (l : List α) : Up lt (mk lt l) := fold_up O l [] List.Pairwise.nil
omit [DecidableEq α] in
/-- in order and with the same things: the same -/
theorem up_ext (O : Ord lt) : ∀ {a b : List α}, Up lt a → Up lt b → (∀ x, x ∈ a ↔ x ∈ b) → a = b
  | [], [], _, _, _ => rfl
  | [], y :: b, _, _, h => absurd ((h y).2 (by simp)) (by simp)
  | x :: a, [], _, _, h => absurd ((h x).1 (by simp)) (by simp)
  | x :: a, y :: b, ha, hb, h => by
    have ha' := List.pairwise_cons.1 ha
    have hb' := List.pairwise_cons.1 hb
    have e : x = y := by
      rcases List.mem_cons.1 ((h x).1 (by simp)) with e | hx
      · exact e
      rcases List.mem_cons.1 ((h y).2 (by simp)) with e | hy
      · exact e.symm
      have := O.tra _ _ _ (ha'.1 y hy) (hb'.1 x hx)
      rw [O.irr] at this
      cases this
    subst e
    have nx : ∀ {l : List α}, (∀ z ∈ l, lt x z = true) → x ∉ l := fun hl hm => by
      have := hl x hm
      rw [O.irr] at this
      cases this
    rw [up_ext O ha'.2 hb'.2 fun z => ?_]
    constructor
    · intro hz
      rcases List.mem_cons.1 ((h z).1 (by simp [hz])) with e | k
      · exact absurd (e ▸ hz) (nx ha'.1)
      · exact k
    · intro hz
      rcases List.mem_cons.1 ((h z).2 (by simp [hz])) with e | k
      · exact absurd (e ▸ hz) (nx hb'.1)
      · exact k
theorem mk_ext (O : Ord lt) {l m : List α} (h : ∀ x, x ∈ l ↔ x ∈ m) : mk lt l = mk lt m := up_ext O (mk_up O l) (mk_up O m) fun x => by rw [mk_mem, mk_mem, h]
theorem mk_same (O : Ord lt) {m : List α} (h : Up lt m) : mk lt m = m := up_ext O (mk_up O m) h fun _ => mk_mem
theorem mk_snoc (l : List α) (t : α) : mk lt (l ++ [t]) = put lt (mk lt l) t := by simp [mk]
omit [DecidableEq α] in
theorem up_filter {m : List α} (h : Up lt m) (p : α → Bool) : Up lt (m.filter p) := List.Pairwise.filter p h
omit [DecidableEq α] in
theorem up_nodup (O : Ord lt) {m : List α} (h : Up lt m) : m.Nodup := by
  refine List.Pairwise.imp (fun {a b} g e => ?_) h
  subst e
  rw [O.irr] at g
  cases g
end
section
variable {α : Type} [DecidableEq α] {lt : α → α → Bool}
/-- an insertion as a loop does it: what is out, and whether it is in -/
def insF (lt : α → α → Bool) (t : α) (o : List α × Bool) (x : α) : List α × Bool := if !o.2 && lt t x then (o.1 ++ [t, x], true) else (o.1 ++ [x], o.2)
omit [DecidableEq α] in
theorem insF_true (t : α) : ∀ (l o : List α), l.foldl (insF lt t) (o, true) = (o ++ l, true)
  | [], o => by simp
  | x :: l, o => by
    rw [List.foldl_cons, show insF lt t (o, true) x = (o ++ [x], true) from rfl, insF_true t l]
    simp
omit [DecidableEq α] in
theorem insF_end (t : α) : ∀ (l o : List α), (if (l.foldl (insF lt t) (o, false)).2 then (l.foldl (insF lt t) (o, false)).1 else (l.foldl (insF lt t) (o, false)).1 ++ [t]) = o ++ ins lt t l
  | [], o => by simp [ins]
  | x :: l, o => by
    rw [List.foldl_cons]
    by_cases h : lt t x = true
    · rw [show insF lt t (o, false) x = (o ++ [t, x], true) from by simp [insF, h], insF_true]
      simp [ins, h]
    · rw [show insF lt t (o, false) x = (o ++ [x], false) from by simp [insF, h], insF_end t l]
      simp [ins, h]
omit [DecidableEq α] in
theorem insF_take (t : α) (l : List α) (i : Nat) (h : i < l.length) : (l.take (i + 1)).foldl (insF lt t) ([], false) = insF lt t ((l.take i).foldl (insF lt t) ([], false)) l[i] := by
  rw [List.take_succ_eq_append_getElem h, List.foldl_append]
  rfl
omit [DecidableEq α] in
theorem insF_len (t : α) : ∀ (l : List α) (o : List α × Bool), (l.foldl (insF lt t) o).1.length ≤ o.1.length + l.length + 1 ∧ (o.2 = true → (l.foldl (insF lt t) o).1.length = o.1.length + l.length)
  | [], o => ⟨by simp, fun _ => by simp⟩
  | x :: l, (o, true) => by
    rw [insF_true]
    simp
  | x :: l, (o, false) => by
    rw [List.foldl_cons]
    have h := insF_len t l (insF lt t (o, false) x)
    by_cases g : lt t x = true
    · have e : insF lt t (o, false) x = (o ++ [t, x], true) := by simp [insF, g]
      rw [e] at h ⊢
      have := h.2 rfl
      simp only [List.length_append, List.length_cons, List.length_nil] at this ⊢
      exact ⟨by omega, fun k => by cases k⟩
    · have e : insF lt t (o, false) x = (o ++ [x], false) := by simp [insF, g]
      rw [e] at h ⊢
      have := h.1
      simp only [List.length_append, List.length_cons, List.length_nil] at this ⊢
      exact ⟨by omega, fun k => by cases k⟩
theorem put_len (m : List α) (t : α) : (put lt m t).length = if t ∈ m then m.length else m.length + 1 := by
  have k : ∀ m : List α, (ins lt t m).length = m.length + 1 := fun m => by
    induction m with
    | nil => rfl
    | cons x l ih => unfold ins; split <;> simp [ih]
  unfold put
  split
  · rfl
  · exact k m
theorem mk_len (l : List α) : (mk lt l).length ≤ l.length := by
  have k : ∀ (l m : List α), (l.foldl (put lt) m).length ≤ m.length + l.length := fun l => by
    induction l with
    | nil => intro m; simp
    | cons x l ih =>
      intro m
      rw [List.foldl_cons]
      have := ih (put lt m x)
      have h := put_len (lt := lt) m x
      simp only [List.length_cons]
      split at h <;> omega
  have := k l []
  unfold mk
  simpa using this
theorem mk_take (l : List α) (i : Nat) (h : i < l.length) : mk lt (l.take (i + 1)) = put lt (mk lt (l.take i)) l[i] := by
  rw [List.take_succ_eq_append_getElem h, mk_snoc]
end
/-! tuples, users, texts -/
instance : DecidableEq Us := fun a b => decidable_of_iff (a.k = b.k ∧ a.i = b.i ∧ a.r = b.r) (by cases a; cases b; simp)
instance : DecidableEq Tp := fun a b => decidable_of_iff (a.k = b.k ∧ a.i = b.i ∧ a.r = b.r ∧ a.u = b.u) (by cases a; cases b; simp)
def ltT (a b : Tp) : Bool := less (lst a.parts) (lst b.parts)
def Us.parts (u : Us) : List ByteArray := [u.k, u.i, u.r]
def ltU (a b : Us) : Bool := less (lst (Us.parts a)) (lst (Us.parts b))
def ltS (a b : ByteArray) : Bool := Op.bytesLess (bl a) (bl b)
theorem less_irr (l : List (List UInt8)) : less l l = false := by
  cases h : less l l with
  | false => rfl
  | true => have := less_asymm h; rw [h] at this; cases this
theorem less_tot {a b : List (List UInt8)} (h : less a b = false) (k : less b a = false) : a = b := by
  have := less_total a b
  rw [h, k] at this
  simpa using this.symm
theorem ordT : Ord ltT := ⟨fun _ => less_irr _, fun _ _ h k => parts_inj (KeyPlain.lst_inj (less_tot h k)), fun _ _ _ h k => less_trans h k⟩
theorem ordU : Ord ltU := ⟨fun _ => less_irr _, fun a b h k => by
  have := KeyPlain.lst_inj (less_tot h k)
  cases a
  cases b
  simpa [Us.parts] using this, fun _ _ _ h k => less_trans h k⟩
theorem ordS : Ord ltS := ⟨fun _ => bl_irrefl _, fun a b h k => by
  have := bl_total (bl a) (bl b)
  unfold ltS at h k
  rw [h, k] at this
  exact ba_of (by simpa using this.symm), fun _ _ _ h k => bl_trans h k⟩
/-! the document's answers -/
/-- all that may be -/
def new (l : List Tp) : List Tp := mk ltT (l.filter Tp.ok)
def putT (m : List Tp) (t : Tp) : List Tp := if t.ok then put ltT m t else m
theorem new_snoc (l : List Tp) (t : Tp) : new (l ++ [t]) = putT (new l) t := by
  unfold new putT
  rw [List.filter_append]
  by_cases h : t.ok = true
  · rw [if_pos h, List.filter_cons_of_pos h, List.filter_nil, mk_snoc]
  · rw [if_neg h, List.filter_cons_of_neg h, List.filter_nil, List.append_nil]
theorem new_mem {l : List Tp} {t : Tp} : t ∈ new l ↔ t ∈ l ∧ t.ok = true := by
  unfold new
  rw [mk_mem, List.mem_filter]
theorem new_up (l : List Tp) : Up ltT (new l) := mk_up ordT _
/-- in whatever order, however often -/
theorem new_ext {l m : List Tp} (h : ∀ x, x ∈ l ↔ x ∈ m) : new l = new m := mk_ext ordT fun x => by rw [List.mem_filter, List.mem_filter, h]
def drop (m : List Tp) (t : Tp) : List Tp := m.filter fun x => !decide (x = t)
def users (m : List Tp) (k i r : ByteArray) : List Us := (m.filter fun t => decide (t.k = k) && decide (t.i = i) && decide (t.r = r)).map (·.u)
/-- a filter's text means a tuple's, if it tells one -/
def told (x s : ByteArray) : Bool := decide (x.size = 0) || decide (x = s)
def means (x t : Tp) : Bool := told x.k t.k && told x.i t.i && told x.r t.r && told x.u.k t.u.k && told x.u.i t.u.i && told x.u.r t.u.r
def find (m : List Tp) (x : Tp) (most : Int) : List Tp := (m.filter (means x)).take most.toNat
def names (m : List Tp) (kind : ByteArray) : List ByteArray := m.flatMap fun t => (if t.k = kind then [t.i] else []) ++ if t.u.k = kind then [t.u.i] else []
def objects (m : List Tp) (kind : ByteArray) : List ByteArray := mk ltS (names m kind)
def people (m : List Tp) : List Us := mk ltU (m.map (·.u))
theorem users_find (m : List Tp) {k i r : ByteArray} (hk : k.size ≠ 0) (hi : i.size ≠ 0) (hr : r.size ≠ 0) (most : Int) (h : (m.length : Int) ≤ most) : users m k i r = (find m ⟨k, i, r, zus⟩ most).map (·.u) := by
  have e : means ⟨k, i, r, zus⟩ = fun t => decide (t.k = k) && decide (t.i = i) && decide (t.r = r) := by
    funext t
    have z : told ⟨#[]⟩ t.u.k = true ∧ told ⟨#[]⟩ t.u.i = true ∧ told ⟨#[]⟩ t.u.r = true := ⟨rfl, rfl, rfl⟩
    have d : ∀ a b : ByteArray, decide (a = b) = decide (b = a) := fun _ _ => decide_eq_decide.2 eq_comm
    simp only [means, zus, z.1, z.2.1, z.2.2, Bool.and_true]
    simp only [told, hk, hi, hr, decide_false, Bool.false_or]
    rw [d k, d i, d r]
  unfold users find
  rw [e, List.take_of_length_le]
  have := List.length_filter_le (fun t : Tp => decide (t.k = k) && decide (t.i = i) && decide (t.r = r)) m
  omega
/-- a filter that tells more means no others -/
theorem means_more {x y t : Tp} (hk : x.k.size = 0 ∨ x.k = y.k) (hi : x.i.size = 0 ∨ x.i = y.i) (hr : x.r.size = 0 ∨ x.r = y.r) (huk : x.u.k.size = 0 ∨ x.u.k = y.u.k) (hui : x.u.i.size = 0 ∨ x.u.i = y.u.i) (hur : x.u.r.size = 0 ∨ x.u.r = y.u.r) (hm : means y t = true) : means x t = true := by
  have one : ∀ {a b s : ByteArray}, (a.size = 0 ∨ a = b) → told b s = true → told a s = true := fun {a b s} h k => by
    rcases h with h | rfl
    · simp [told, h]
    · exact k
  simp only [means, Bool.and_eq_true] at hm ⊢
  exact ⟨⟨⟨⟨⟨one hk hm.1.1.1.1.1, one hi hm.1.1.1.1.2⟩, one hr hm.1.1.1.2⟩, one huk hm.1.1.2⟩, one hui hm.1.2⟩, one hur hm.2⟩
end Go.Proofs.YtilcnhdfdgmekaaGreat.FactsPlain
