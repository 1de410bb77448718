/- Plain facts on nodes: nothing of the program. -/
import Derived.Test.YtpcpfcllgadghaaKeyPlain
namespace Go.Proofs.Ytpcpfcllgadghaa.NodePlain
open Go.RowKit KeyPlain

/-- a node -/
structure Nd where
  leaf : Bool
  keys : List ByteArray
  vals : List ByteArray
  kids : List Int
def less (a b : ByteArray) : Bool := Op.bytesLess a.data.toList b.data.toList
theorem bs_ext {s t : ByteArray} (h : s.data.toList = t.data.toList) : s = t := by
  cases s; cases t; simp only [ByteArray.mk.injEq]; exact Array.toList_inj.1 h
theorem less_irrefl (a : ByteArray) : less a a = false := bl_irrefl _
theorem less_trans {a b c : ByteArray} (h : less a b = true) (k : less b c = true) : less a c = true := bl_trans h k
theorem less_asymm {a b : ByteArray} (h : less a b = true) : less b a = false := bl_asymm h
theorem less_total {a b : ByteArray} (h : less a b = false) (k : less b a = false) : a = b := by
  have := bl_total a.data.toList b.data.toList
  unfold less at h k
  rw [h, k] at this
  exact bs_ext (of_decide_eq_true (by revert this; cases decide (a.data.toList = b.data.toList) <;> simp))
theorem less_ne {a b : ByteArray} (h : less a b = true) : a ≠ b := by rintro rfl; rw [less_irrefl] at h; cases h
/-- a is b, ahead of it, or behind it -/
theorem less_cases (a b : ByteArray) : (less a b = true ∧ less b a = false ∧ a ≠ b) ∨ (a = b ∧ less a b = false ∧ less b a = false) ∨ (less b a = true ∧ less a b = false ∧ a ≠ b) := by
  cases h : less a b with
  | true => exact .inl ⟨rfl, less_asymm h, less_ne h⟩
  | false =>
    cases k : less b a with
    | true => exact .inr (.inr ⟨rfl, rfl, (less_ne k).symm⟩)
    | false => exact .inr (.inl ⟨less_total h k, rfl, rfl⟩)

/-! keys that rise -/
def Up (ks : List ByteArray) : Prop := ks.Pairwise (fun a b => less a b = true)
theorem up_adj : ∀ {ks : List ByteArray}, (∀ i (h : i + 1 < ks.length), less ks[i] ks[i + 1] = true) → Up ks
  | [], _ => .nil
  | [_], _ => by simp [Up]
  | a :: b :: l, h => by
    have ih : Up (b :: l) := up_adj fun i hi => h (i + 1) (by simpa using hi)
    have hab : less a b = true := h 0 (by simp)
    refine List.Pairwise.cons ?_ ih
    intro x hx
    rcases List.mem_cons.1 hx with rfl | hx
    · exact hab
    · exact less_trans hab ((List.pairwise_cons.1 ih).1 x hx)
theorem Up.at {ks : List ByteArray} (h : Up ks) {i j : Nat} (hij : i < j) (hj : j < ks.length) : less ks[i] ks[j] = true := List.pairwise_iff_getElem.1 h i j (by omega) hj hij
theorem up_iff {ks : List ByteArray} : Up ks ↔ ∀ i (h : i + 1 < ks.length), less ks[i] ks[i + 1] = true := ⟨fun h i hi => h.at (by omega) hi, up_adj⟩
theorem Up.take {ks : List ByteArray} (h : Up ks) (n : Nat) : Up (ks.take n) := List.Pairwise.sublist (List.take_sublist n ks) h
theorem Up.drop {ks : List ByteArray} (h : Up ks) (n : Nat) : Up (ks.drop n) := List.Pairwise.sublist (List.drop_sublist n ks) h

/-- how many keys are below a key -/
def pos : List ByteArray → ByteArray → Nat
  | [], _ => 0
  | a :: l, k => if less a k then pos l k + 1 else 0
theorem pos_le (ks : List ByteArray) (k : ByteArray) : pos ks k ≤ ks.length := by
  induction ks with
  | nil => simp [pos]
  | cons a l ih => simp only [pos]; split <;> simp <;> omega
theorem pos_below (ks : List ByteArray) (k : ByteArray) {j : Nat} (h : j < pos ks k) : less (ks[j]'(Nat.lt_of_lt_of_le h (pos_le ks k))) k = true := by
  induction ks generalizing j with
  | nil => simp [pos] at h
  | cons a l ih =>
    by_cases ha : less a k = true
    · cases j with
      | zero => simpa using ha
      | succ j => simp only [pos, ha, if_true] at h; simpa using ih (by omega)
    · simp [pos, ha] at h
theorem pos_at (ks : List ByteArray) (k : ByteArray) (h : pos ks k < ks.length) : less ks[pos ks k] k = false := by
  induction ks with
  | nil => simp at h
  | cons a l ih =>
    by_cases ha : less a k = true
    · simp only [pos, ha, if_true] at h ⊢
      simpa using ih (by simpa using h)
    · simp only [pos, ha]; simpa using ha
theorem Up.from {ks : List ByteArray} (hu : Up ks) (k : ByteArray) {j : Nat} (hj : pos ks k ≤ j) (hl : j < ks.length) : less ks[j] k = false := by
  have h0 := pos_at ks k (by omega)
  rcases Nat.lt_or_ge (pos ks k) j with g | g
  · have h1 := hu.at g hl
    cases h2 : less ks[j] k with
    | false => rfl
    | true => rw [less_trans h1 h2] at h0; cases h0
  · obtain rfl : j = pos ks k := by omega
    exact h0
theorem pos_eq {ks : List ByteArray} (hu : Up ks) (k : ByteArray) {i : Nat} (hi : i ≤ ks.length) (h1 : ∀ j, j + 1 = i → ∀ h : j < ks.length, less ks[j] k = true) (h2 : ∀ h : i < ks.length, less ks[i] k = false) : i = pos ks k := by
  have hp := pos_le ks k
  rcases Nat.lt_trichotomy i (pos ks k) with g | g | g
  · have := pos_below ks k g
    rw [h2 (by omega)] at this
    cases this
  · exact g
  · have := h1 (i - 1) (by omega) (by omega)
    rw [hu.from k (by omega) (by omega)] at this
    cases this
/-- whether a key is there -/
def has (ks : List ByteArray) (k : ByteArray) : Bool := ks.any fun a => decide (a = k)
theorem has_mem (ks : List ByteArray) (k : ByteArray) : has ks k = true ↔ k ∈ ks := by simp [has]
theorem has_at {ks : List ByteArray} (hu : Up ks) (k : ByteArray) : has ks k = true ↔ ∃ h : pos ks k < ks.length, ks[pos ks k] = k := by
  rw [has_mem]
  constructor
  · intro h
    obtain ⟨i, hi, rfl⟩ := List.mem_iff_getElem.1 h
    have e : i = pos ks ks[i] := pos_eq hu _ (by omega) (fun j hj _ => hu.at (by omega) hi) (fun _ => less_irrefl _)
    have hl : pos ks ks[i] < ks.length := by omega
    refine ⟨hl, ?_⟩
    congr 1
    exact e.symm
  · rintro ⟨h, e⟩
    exact List.mem_iff_getElem.2 ⟨_, h, e⟩

/-! whether a node may be -/
def Long (ts : List ByteArray) : Prop := ∃ t ∈ ts, 100 < t.size
def Fine (n : Nd) : Prop := (if n.leaf then n.vals.length = n.keys.length ∧ n.kids = [] else n.kids.length = n.keys.length + 1 ∧ n.vals = []) ∧ (∀ k ∈ n.kids, 1 ≤ k ∧ k ≤ 4294967295) ∧ Up n.keys
/-- Check's answer -/
def Chk (n : Nd) (e : Int) : Prop := ((Long n.keys ∨ Long n.vals) ∧ e = 51) ∨ (¬ (Long n.keys ∨ Long n.vals) ∧ ¬ Fine n ∧ e = 50) ∨ (¬ (Long n.keys ∨ Long n.vals) ∧ Fine n ∧ e = 0)
theorem Chk.uniq {n : Nd} {e f : Int} (h : Chk n e) (k : Chk n f) : e = f := by
  rcases h with ⟨h1, rfl⟩ | ⟨h1, h2, rfl⟩ | ⟨h1, h2, rfl⟩ <;> rcases k with ⟨k1, rfl⟩ | ⟨k1, k2, rfl⟩ | ⟨k1, k2, rfl⟩ <;> first | rfl | exact absurd h1 k1 | exact absurd k1 h1 | exact absurd h2 k2 | exact absurd k2 h2
def Ok (n : Nd) : Prop := ¬ (Long n.keys ∨ Long n.vals) ∧ Fine n
theorem chk_ok {n : Nd} {e : Int} (h : Chk n e) : e = 0 ↔ Ok n := by
  rcases h with ⟨h1, rfl⟩ | ⟨h1, h2, rfl⟩ | ⟨h1, h2, rfl⟩
  · exact ⟨fun h => (by cases h), fun h => absurd h1 h.1⟩
  · exact ⟨fun h => (by cases h), fun h => absurd h.2 h2⟩
  · exact ⟨fun _ => ⟨h1, h2⟩, fun _ => rfl⟩
theorem Ok.chk {n : Nd} {e : Int} (h : Ok n) (k : Chk n e) : e = 0 := (chk_ok k).2 h
/-- how many bytes texts have -/
def tot : List ByteArray → Nat
  | [] => 0
  | p :: l => p.size + tot l
theorem tot_append (a b : List ByteArray) : tot (a ++ b) = tot a + tot b := by
  induction a with
  | nil => simp [tot]
  | cons p l ih => simp [tot, ih]; omega
theorem tot_take (ps : List ByteArray) (k : Nat) (h : k < ps.length) : tot (ps.take (k + 1)) = tot (ps.take k) + ps[k].size := by
  rw [List.take_succ_eq_append_getElem h, tot_append]; simp [tot]
theorem tot_le (ps : List ByteArray) (m : Nat) (h : ∀ q ∈ ps, q.size ≤ m) : tot ps ≤ m * ps.length := by
  induction ps with
  | nil => simp [tot]
  | cons p l ih =>
    have h1 := h p (by simp)
    have h2 := ih fun q hq => h q (by simp [hq])
    simp only [tot, List.length_cons, Nat.mul_succ]
    omega
def room (n : Nd) : Nat := 3 * n.keys.length + tot n.keys + tot n.vals + 4 * n.kids.length + (if n.leaf then 0 else 2)
/-- a node that isn't too great for a walk -/
structure Small (n : Nd) : Prop where
  k : n.keys.length ≤ 1000
  v : n.vals.length ≤ 1000
  d : n.kids.length ≤ 1000
  ks : ∀ q ∈ n.keys, q.size ≤ 1000
  vs : ∀ q ∈ n.vals, q.size ≤ 1000
/-- few -/
def Few (n : Nd) : Prop := n.keys.length ≤ 100 ∧ n.vals.length ≤ 100 ∧ n.kids.length ≤ 101 ∧ (∀ q ∈ n.keys, q.size ≤ 300) ∧ ∀ q ∈ n.vals, q.size ≤ 300
theorem Few.small {n : Nd} (h : Few n) : Small n := ⟨by have := h.1; omega, by have := h.2.1; omega, by have := h.2.2.1; omega, fun q hq => by have := h.2.2.2.1 q hq; omega, fun q hq => by have := h.2.2.2.2 q hq; omega⟩
end Go.Proofs.Ytpcpfcllgadghaa.NodePlain
