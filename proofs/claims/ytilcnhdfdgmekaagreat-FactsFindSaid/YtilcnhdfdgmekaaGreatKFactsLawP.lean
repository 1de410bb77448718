/- What the laws of the facts stand on, as plain data. -/
import Derived.Test.YtilcnhdfdgmekaaGreatKFactsAwake
namespace Go.Proofs.YtilcnhdfdgmekaaGreat.FactsLawP
open Go.RowKit Base KeyPlain TuplePlain TupleRef TupleSpec TupleCut FMap FactsPlain FactsMem FactsHas FactsPut FactsDrop FactsNew FactsFind FactsLess FactsObj FactsUsersOf FactsNames FactsOrder FactsRefS FactsFew FactsIs FactsAwake TurnB RowN

theorem put_self {m : List Tp} {t : Tp} : t ∈ putT m t ↔ t ∈ m ∨ t.ok = true := by
  unfold putT
  by_cases h : t.ok = true
  · rw [if_pos h, put_mem]
    simp [h]
  · rw [if_neg h]
    simp [h]
theorem put_other {m : List Tp} {t x : Tp} (hx : x ≠ t) : x ∈ putT m t ↔ x ∈ m := by
  unfold putT
  split
  · rw [put_mem]
    simp [hx]
  · exact Iff.rfl
theorem putT_up {m : List Tp} (h : Up ltT m) (t : Tp) : Up ltT (putT m t) := by
  unfold putT
  split
  · exact put_up ordT h t
  · exact h
theorem drop_put {m : List Tp} (h : Up ltT m) (t : Tp) : drop (putT m t) t = drop m t := up_ext ordT (up_filter (putT_up h t) _) (up_filter h _) fun x => by
  rw [drop_mem, drop_mem]
  by_cases hx : x = t
  · simp [hx]
  · rw [put_other hx]
theorem drop_len {m : List Tp} (h : m.Nodup) (t : Tp) : (drop m t).length + (if t ∈ m then 1 else 0) = m.length := by
  unfold drop
  induction m with
  | nil => rfl
  | cons x m ih =>
    rw [List.nodup_cons] at h
    have := ih h.2
    by_cases hx : x = t
    · subst hx
      rw [List.filter_cons_of_neg (by simp), if_pos (by simp), List.length_cons]
      rw [if_neg h.1] at this
      omega
    · rw [List.filter_cons_of_pos (by simp [hx]), List.length_cons, List.length_cons]
      have e : (t ∈ x :: m) ↔ t ∈ m := by simp [Ne.symm hx]
      simp only [e]
      omega
theorem few_len {l : List Tp} (h : fewB l = true) : l.length ≤ 80 := by
  unfold fewB at h
  simp at h
  exact h.2
theorem few_tpf {l : List Tp} (h : fewB l = true) {t : Tp} (ht : t ∈ l) : TpF t := by
  unfold fewB at h
  rw [Bool.and_eq_true] at h
  exact (short_few (List.all_eq_true.1 h.1 t ht)).tpf
theorem new_len (l : List Tp) : (new l).length ≤ l.length := Nat.le_trans (FactsPlain.mk_len _) (List.length_filter_le _ _)
/-- a tuple in a box of its own -/
def Bx (w : World) (b : Nat) (t : Tp) : Prop := w.cell? ⟨b, 0, none⟩ = some (.string t.k) ∧ w.cell? ⟨b, 1, none⟩ = some (.string t.i) ∧ w.cell? ⟨b, 2, none⟩ = some (.string t.r) ∧ w.cell? ⟨b, 3, none⟩ = some (.string t.u.k) ∧ w.cell? ⟨b, 4, none⟩ = some (.string t.u.i) ∧ w.cell? ⟨b, 5, none⟩ = some (.string t.u.r)
theorem Bx.wn {lo : Nat} {w w' : World} {b : Nat} {t : Tp} (h : Bx w b t) (hk : Wn lo w w') : Bx w' b t := ⟨cell_wn hk h.1, cell_wn hk h.2.1, cell_wn hk h.2.2.1, cell_wn hk h.2.2.2.1, cell_wn hk h.2.2.2.2.1, cell_wn hk h.2.2.2.2.2⟩
theorem Bx.below {w w' : World} {b : Nat} {t : Tp} (h : Bx w b t) (hk : Below w.heap.size w w') : Bx w' b t := h.wn (Wn.ofBelow (lo := 0) hk)
/-- two tuples in a row, just made -/
theorem row_two {w : World} {g : Nat} {t s : Tp} (h : w.heap[g]? = some (.cells #[.string t.k, .string t.i, .string t.r, .string t.u.k, .string t.u.i, .string t.u.r, .string s.k, .string s.i, .string s.r, .string s.u.k, .string s.u.i, .string s.u.r] 32 (0, 0))) : RowT w (some ⟨g, 0, none⟩) [t, s] := fun i hi => by
  have hi' : i < 2 := by simpa using hi
  refine ⟨g, 0, rfl, heap_lt h, ?_⟩
  match i, hi' with
  | 0, _ => simp [World.cell?, h]
  | 1, _ => simp [World.cell?, h]
theorem row_one {w : World} {g : Nat} {t : Tp} (h : w.heap[g]? = some (.cells #[.string t.k, .string t.i, .string t.r, .string t.u.k, .string t.u.i, .string t.u.r] 32 (0, 0))) : RowT w (some ⟨g, 0, none⟩) [t] := fun i hi => by
  have hi' : i < 1 := by simpa using hi
  refine ⟨g, 0, rfl, heap_lt h, ?_⟩
  match i, hi' with
  | 0, _ => simp [World.cell?, h]
end Go.Proofs.YtilcnhdfdgmekaaGreat.FactsLawP
