/- Slices of free pages: parts of them, lists of them; what search and index find. -/
import Derived.Test.YtffbmabhlgfjkaaFreeCat
import Derived.Test.YtffbmabhlgfjkaaFreeFind
import Derived.Test.YtffbmabhlgfjkaaFreeSearch
namespace Go.Proofs.Ytffbmabhlgfjkaa.FreeSl
open Go.RowKit Base FreePlain FreeMem FreeFn FreeFind FreeSearch FreeCat

/-- a slice that reads as l -/
def SlF (l : Fs) (v : Value) (w : World) : Prop := ∃ A c, v = .slice A l.length c ∧ l.length ≤ c ∧ Row w w.heap.size A (fr l)
theorem SlF.below {l : Fs} {v : Value} {w w' : World} (h : SlF l v w) (hb : Below w.heap.size w w') : SlF l v w' := by
  obtain ⟨A, c, e, hc, hr⟩ := h
  exact ⟨A, c, e, hc, hr.belowSize hb⟩
theorem SlF.form {l : Fs} {v : Value} {w : World} (h : SlF l v w) : ∃ A m c, v = .slice A m c := by
  obtain ⟨A, c, e, _⟩ := h
  exact ⟨A, _, c, e⟩
theorem add_add_ (a : Addr) (i k : Nat) : (a.add i).add k = a.add (i + k) := by
  by_cases h1 : i = 0
  · subst h1; simp [Addr.add]
  · by_cases h2 : k = 0
    · subst h2; simp [Addr.add]
    · simp [Addr.add, h1, h2, Nat.add_assoc]
theorem fr_drop : ∀ (l : Fs) (k : Nat), fr (l.drop k) = (fr l).drop (k * 2)
  | l, 0 => by simp
  | [], k + 1 => by simp [fr]
  | p :: l, k + 1 => by
    have := fr_drop l k
    have e : (k + 1) * 2 = k * 2 + 2 := by omega
    rw [List.drop_succ_cons, fr_cons, e, this]
    simp
theorem fr_take : ∀ (l : Fs) (k : Nat), fr (l.take k) = (fr l).take (k * 2)
  | l, 0 => by simp [fr]
  | [], k + 1 => by simp [fr]
  | p :: l, k + 1 => by
    have := fr_take l k
    have e : (k + 1) * 2 = k * 2 + 2 := by omega
    rw [List.take_succ_cons, fr_cons, fr_cons, e, this]
    simp
theorem row_cut {w : World} {B : Nat} {A : Option Addr} {l : Fs} {C i k : Nat} (h : Row w B A (fr l)) (hC : l.length ≤ C) : Row w B (if C = i then A else A.map (·.add (i * 2))) (fr ((l.drop i).take k)) := fun j v hv => by
  have hv2 : (fr l)[i * 2 + j]? = some v := by
    rw [fr_take, fr_drop, List.getElem?_take, List.getElem?_drop] at hv
    split at hv
    · exact hv
    · cases hv
  obtain ⟨ad, e, h1, h2⟩ := h _ _ hv2
  subst e
  have hlt : i * 2 + j < l.length * 2 := by
    rcases Nat.lt_or_ge (i * 2 + j) (l.length * 2) with q | q
    · exact q
    · rw [List.getElem?_eq_none (by rw [fr_len]; exact q)] at hv2; cases hv2
  rw [if_neg (by omega)]
  exact ⟨ad.add (i * 2), rfl, by rw [blk_add]; exact h1, by rw [add_add_]; exact h2⟩
theorem size_f (w : World) : (sizeOf (Try.prog.elem 22)).run Try.prog w = .ok 2 w := by
  have h : (Try.prog.info? (Try.prog.elem 22)).map (fun i => i.size) = some 2 := by kernel_rfl
  cases hi : Try.prog.info? (Try.prog.elem 22) with
  | none => rw [hi] at h; cases h
  | some i => rw [hi] at h; injection h with h; simp [sizeOf, typeInfo, hi, h]
theorem under_e : Try.prog.underlying 22 = some (.slice (Try.prog.elem 22)) := by kernel_rfl
section
variable {w : World} {A : Option Addr} {n c i k : Nat} {l : Fs}
theorem cut_h (hr : Row w w.heap.size A (fr l)) (hc : l.length ≤ c) (hi : i ≤ l.length) : ∃ v, (Instr.slice 22 (.slice A n c) none (some (.int .i64 (i : Int))) none).run Try.prog w = .ok v w ∧ SlF (l.take i) v w := by
  refine ⟨_, ?_, (A : Option Addr), c, rfl, ?_, hr.take _ |> fun h => by rw [fr_take]; exact h⟩
  · rw [run_slice_h w 22 A n c under_e .i64 i (by omega) (by omega), size_f]
    simp only [sliced, Result.andThen, Int.toNat_natCast, Nat.sub_zero, List.length_take, Nat.min_eq_left hi, Nat.zero_mul]
    congr 2
    split
    · rfl
    · cases A <;> simp [Addr.add]
  · rw [List.length_take]; omega
theorem cut_l (hn : n = l.length) (hr : Row w w.heap.size A (fr l)) (hc : l.length ≤ c) (hi : i ≤ l.length) : ∃ v, (Instr.slice 22 (.slice A n c) (some (.int .i64 (i : Int))) none none).run Try.prog w = .ok v w ∧ SlF (l.drop i) v w := by
  subst hn
  refine ⟨_, ?_, _, c - i, rfl, ?_, by have h := row_cut (i := i) (k := l.length - i) hr hc; rw [← List.length_drop, List.take_length] at h; exact h⟩
  · rw [run_slice_l w 22 A l.length c under_e .i64 i (by omega) (by omega), size_f]
    simp only [sliced, Result.andThen, Int.toNat_natCast, List.length_drop]
  · rw [List.length_drop]; omega
theorem cut_lh (hr : Row w w.heap.size A (fr l)) (hc : l.length ≤ c) (hi : i ≤ k) (hk : k ≤ l.length) : ∃ v, (Instr.slice 22 (.slice A n c) (some (.int .i64 (i : Int))) (some (.int .i64 (k : Int))) none).run Try.prog w = .ok v w ∧ SlF ((l.drop i).take (k - i)) v w := by
  refine ⟨_, ?_, _, c - i, rfl, ?_, row_cut (i := i) (k := k - i) hr hc⟩
  · rw [run_slice_lh w 22 A n c under_e .i64 .i64 i k (by omega) (by omega) (by omega), size_f]
    have : ((l.drop i).take (k - i)).length = k - i := by rw [List.length_take, List.length_drop]; omega
    simp only [sliced, Result.andThen, Int.toNat_natCast, this]
  · rw [List.length_take, List.length_drop]; omega
end
theorem sl_new (w : World) (p : Int × Int) : SlF [p] (.slice (some ⟨w.heap.size, 0, none⟩) 1 1) (w.alloc (.cells #[.int .i64 p.1, .int .i64 p.2] 25)) := ⟨_, _, rfl, Nat.le_refl _, row_item w p⟩
/-- a slice of slices -/
def PcF (ls : List Fs) (v : Value) (w : World) : Prop := ∃ A n ps, v = .slice A n n ∧ n = (ps : List Pc).length ∧ ls = ps.map (fun p => p.2.2) ∧ Row w w.heap.size A (ps.map pcv) ∧ ∀ p ∈ ps, Row w w.heap.size p.1 (fr p.2.2)
theorem PcF.below {ls : List Fs} {v : Value} {w w' : World} (h : PcF ls v w) (hb : Below w.heap.size w w') : PcF ls v w' := by
  obtain ⟨A, n, ps, e, hn, hl, hr, hp⟩ := h
  exact ⟨A, n, ps, e, hn, hl, hr.belowSize hb, fun p h => (hp p h).belowSize hb⟩
theorem PcF.form {ls : List Fs} {v : Value} {w : World} (h : PcF ls v w) : ∃ A m c, v = .slice A m c := by
  obtain ⟨A, n, _, e, _⟩ := h
  exact ⟨A, _, _, e⟩
theorem pc1 {w : World} {t : TypeId} {a : Value} {x : Fs} (ha : SlF x a w) : PcF [x] (.slice (some ⟨w.heap.size, 0, none⟩) 1 1) (w.alloc (.cells #[a] t)) := by
  obtain ⟨A, c, rfl, _, h1⟩ := ha
  refine ⟨_, 1, [(A, c, x)], rfl, rfl, rfl, (row_of_block (heap_alloc_new w (.cells #[.slice A x.length c] t))).more (by simp), fun p hp => ?_⟩
  simp at hp
  subst hp
  exact h1.belowSize (al _ _)
theorem pc2 {w : World} {t : TypeId} {a b : Value} {x y : Fs} (ha : SlF x a w) (hb : SlF y b w) : PcF [x, y] (.slice (some ⟨w.heap.size, 0, none⟩) 2 2) (w.alloc (.cells #[a, b] t)) := by
  obtain ⟨A, c, rfl, _, h1⟩ := ha
  obtain ⟨B, d, rfl, _, h2⟩ := hb
  refine ⟨_, 2, [(A, c, x), (B, d, y)], rfl, rfl, rfl, (row_of_block (heap_alloc_new w (.cells #[.slice A x.length c, .slice B y.length d] t))).more (by simp), fun p hp => ?_⟩
  simp at hp
  rcases hp with rfl | rfl
  · exact h1.belowSize (al _ _)
  · exact h2.belowSize (al _ _)
theorem pc3 {w : World} {t : TypeId} {a b d : Value} {x y z : Fs} (ha : SlF x a w) (hb : SlF y b w) (hd : SlF z d w) : PcF [x, y, z] (.slice (some ⟨w.heap.size, 0, none⟩) 3 3) (w.alloc (.cells #[a, b, d] t)) := by
  obtain ⟨A, c1, rfl, _, h1⟩ := ha
  obtain ⟨B, c2, rfl, _, h2⟩ := hb
  obtain ⟨D, c3, rfl, _, h3⟩ := hd
  refine ⟨_, 3, [(A, c1, x), (B, c2, y), (D, c3, z)], rfl, rfl, rfl, (row_of_block (heap_alloc_new w (.cells #[.slice A x.length c1, .slice B y.length c2, .slice D z.length c3] t))).more (by simp), fun p hp => ?_⟩
  simp at hp
  rcases hp with rfl | rfl | rfl
  · exact h1.belowSize (al _ _)
  · exact h2.belowSize (al _ _)
  · exact h3.belowSize (al _ _)
/-- a list of the call's own, from block lo on -/
def OwF (lo : Nat) (l : Fs) (v : Value) (w : World) : Prop := ∃ A m c, v = .slice A m c ∧ m = l.length ∧ OwnF w lo A c l
theorem OwF.below {lo : Nat} {l : Fs} {v : Value} {w w' : World} (h : OwF lo l v w) (hb : Below w.heap.size w w') : OwF lo l v w' := by
  obtain ⟨A, m, c, e, hm, h⟩ := h
  exact ⟨A, m, c, e, hm, h.later hb⟩
theorem OwF.form {lo : Nat} {l : Fs} {v : Value} {w : World} (h : OwF lo l v w) : ∃ A m c, v = .slice A m c := by
  obtain ⟨A, m, c, e, _⟩ := h
  exact ⟨A, m, c, e⟩
theorem own_low {w : World} {lo lo' : Nat} {A : Option Addr} {c : Nat} {l : Fs} (h : OwnF w lo' A c l) (hl : lo ≤ lo') : OwnF w lo A c l := by
  obtain ⟨h1, h2⟩ := h
  refine ⟨h1, ?_⟩
  rcases h2 with h2 | ⟨g, cap, cur, h3, h4, h5⟩
  · exact .inl h2
  · exact .inr ⟨g, cap, cur, h3, Nat.le_trans hl h4, h5⟩
theorem catF (w : World) (v : Value) (ls : List Fs) (lo : Nat) (hlo : lo ≤ w.heap.size) (hv : PcF ls v w) (hl : ls.flatten.length ≤ 100000) (hp : ls.length ≤ 1000) :
    Calls Try.prog 29 #[v] w fun e w' => ∃ A m c, e = .returned (.slice A m c) ∧ OwF lo ls.flatten (.slice A m c) w' ∧ Below w.heap.size w w' := by
  obtain ⟨A, n, ps, rfl, rfl, rfl, hr, hps⟩ := hv
  refine (concat_any w A ps.length ps.length ps rfl hr hps (by rw [← all_len]; exact hl) (by simpa using hp)).mono ?_
  rintro e w' ⟨A', c', rfl, hown, hb⟩
  exact ⟨A', _, c', rfl, ⟨A', _, c', rfl, rfl, own_low hown hlo⟩, hb⟩
/-! what is found -/
theorem sr_one {g : Int} {l : Fs} {k m : Nat} {b d : Bool} (h : Sr g l k b) (h' : Sr g l m d) : k = m ∧ b = d := by
  obtain ⟨a1, a2, a3, a4⟩ := h
  obtain ⟨b1, b2, b3, b4⟩ := h'
  have e : k = m := by
    rcases Nat.lt_trichotomy k m with q | q | q
    · have := a3 k (Nat.le_refl _) (by omega)
      have := b2 k q (by omega)
      omega
    · exact q
    · have := b3 m (Nat.le_refl _) (by omega)
      have := a2 m q (by omega)
      omega
  subst e
  exact ⟨rfl, Bool.eq_iff_iff.2 (a4.trans b4.symm)⟩
theorem sr_ex (g : Int) : ∀ {l : Fs}, Rise l → ∃ k b, Sr g l k b
  | [], _ => ⟨0, false, by simp [Sr]⟩
  | p :: l, h => by
    obtain ⟨h1, h2⟩ := rise_cons.1 h
    by_cases q : p.1 < g
    · obtain ⟨k, b, a1, a2, a3, a4⟩ := sr_ex g h2
      refine ⟨k + 1, b, by simpa using a1, ?_, ?_, by simpa using a4⟩
      · intro j hj hl
        cases j with
        | zero => exact q
        | succ j => exact a2 j (by omega) (by simpa using hl)
      · intro j hj hl
        cases j with
        | zero => omega
        | succ j => exact a3 j (by omega) (by simpa using hl)
    · refine ⟨0, decide (p.1 = g), by simp, by intro j hj; omega, ?_, by simp⟩
      intro j _ hl
      cases j with
      | zero => simp; omega
      | succ j =>
        have hj : j < l.length := by simpa using hl
        have := h1 l[j] (List.getElem_mem hj)
        show g ≤ (l[j]).1
        omega
theorem sr_ins {g e : Int} {l : Fs} {k : Nat} {b : Bool} (h : Sr g l k b) : ins g e l = l.take k ++ [(g, e)] ++ l.drop (if b then k + 1 else k) := by
  obtain ⟨a1, a2, a3, a4⟩ := h
  have h1 : ins g e (l.take k ++ l.drop k) = l.take k ++ ins g e (l.drop k) := ins_all _ fun p hp => by
    obtain ⟨j, hj, rfl⟩ := List.mem_iff_getElem.1 hp
    rw [List.length_take] at hj
    rw [List.getElem_take]
    exact a2 j (by omega) (by omega)
  rw [List.take_append_drop] at h1
  rw [h1]
  by_cases hk : k < l.length
  · have h3 := a3 k (Nat.le_refl _) hk
    have e1 : l.drop k = l[k] :: l.drop (k + 1) := List.drop_eq_getElem_cons hk
    have n1 : ¬ (l[k]).1 < g := by omega
    cases b with
    | true =>
      obtain ⟨_, q⟩ := a4.1 rfl
      rw [e1]
      simp [ins, q]
    | false =>
      have q : (l[k]).1 ≠ g := fun q => by have := a4.2 ⟨hk, q⟩; cases this
      rw [e1]
      simp [ins, q, n1]
  · have e1 : l.drop k = [] := List.drop_eq_nil_iff.2 (by omega)
    have e2 : l.drop (k + 1) = [] := List.drop_eq_nil_iff.2 (by omega)
    cases b with
    | true => obtain ⟨q, _⟩ := a4.1 rfl; omega
    | false => simp [e1, ins]
theorem at_one {o : Int} {l : Fs} {r s : Int} (h : At o l r) (h' : At o l s) : r = s := by
  rcases h with ⟨rfl, h1⟩ | ⟨k, hk, rfl, h2, h3⟩
  · rcases h' with ⟨rfl, _⟩ | ⟨m, hm, rfl, h4, _⟩
    · rfl
    · exact absurd h4 (h1 _ (List.getElem_mem hm))
  · rcases h' with ⟨rfl, h1⟩ | ⟨m, hm, rfl, h4, h5⟩
    · exact absurd h2 (h1 _ (List.getElem_mem hk))
    · rcases Nat.lt_trichotomy k m with q | q | q
      · exact absurd h2 (h5 k q)
      · rw [q]
      · exact absurd h4 (h3 m q)
theorem at_ex (o : Int) : ∀ l : Fs, At o l (-1) ∨ ∃ k : Nat, At o l k ∧ k < l.length
  | [] => .inl (.inl ⟨rfl, fun _ h => by cases h⟩)
  | p :: l => by
    by_cases q : p.2 ≤ o
    · exact .inr ⟨0, .inr ⟨0, by simp, rfl, q, fun j hj => by omega⟩, by simp⟩
    · rcases at_ex o l with h | ⟨k, h, hk⟩
      · refine .inl (.inl ⟨rfl, ?_⟩)
        rcases h with ⟨_, h⟩ | ⟨k, _, e, _⟩
        · intro x hx
          rcases List.mem_cons.1 hx with rfl | hx
          · exact q
          · exact h x hx
        · omega
      · refine .inr ⟨k + 1, .inr ⟨k + 1, by simpa using hk, rfl, ?_⟩, by simpa using hk⟩
        rcases h with ⟨e, _⟩ | ⟨m, hm, e, h1, h2⟩
        · omega
        · obtain rfl : k = m := by omega
          refine ⟨h1, fun j hj => ?_⟩
          cases j with
          | zero => exact q
          | succ j => exact h2 j (by omega)
theorem at_none {o : Int} {l : Fs} (h : At o l (-1)) : first o l = (none, l) := by
  rcases h with ⟨_, h⟩ | ⟨k, _, e, _⟩
  · have := first_none [] h
    rw [List.append_nil] at this
    rw [this]
    simp [first]
  · omega
theorem at_some {o : Int} {l : Fs} {k : Nat} (hk : k < l.length) (h : At o l k) : first o l = (some (l[k]).1, l.take k ++ l.drop (k + 1)) := by
  rcases h with ⟨e, _⟩ | ⟨m, hm, e, h1, h2⟩
  · omega
  · obtain rfl : k = m := by omega
    have h3 := first_none (o := o) (t := l.take k) (l.drop k) fun p hp => by
      obtain ⟨j, hj, rfl⟩ := List.mem_iff_getElem.1 hp
      rw [List.length_take] at hj
      rw [List.getElem_take]
      exact h2 j (by omega)
    rw [List.take_append_drop, List.drop_eq_getElem_cons hk] at h3
    rw [h3]
    simp [first, h1]
theorem search_at (W : World) (A : Option Addr) (n c : Nat) (l : Fs) (g : Int) {k : Nat} {b : Bool} (hs : Sr g l k b) (hn : n = l.length) (hr : Row W W.heap.size A (fr l)) (hu : Rise l) (hl : l.length ≤ 100000) :
    Calls Try.prog 26 #[.slice A n c, .int .i64 g, .func (.func 27) #[] #[]] W fun e w' => e = .returned (.tuple #[.int .i64 k, .bool b]) ∧ Below W.heap.size W w' := by
  refine (search_any W A n c l g hn hr hu hl).mono ?_
  rintro e w' ⟨k', b', rfl, h, hb⟩
  obtain ⟨rfl, rfl⟩ := sr_one h hs
  exact ⟨rfl, hb⟩
theorem index_at (W : World) (A : Option Addr) (n c : Nat) (l : Fs) (o : Int) (B : Nat) {r : Int} (hs : At o l r) (hn : n = l.length) (hr : Row W W.heap.size A (fr l)) (hl : l.length ≤ 100000) (hB : B < W.heap.size) (hc : W.cell? ⟨B, 0, none⟩ = some (.int .i64 o)) :
    Calls Try.prog 30 #[.slice A n c, clo B] W fun e w' => e = .returned (.int .i64 r) ∧ Below W.heap.size W w' := by
  refine (index_any W A n c l o B hn hr hl hB hc).mono ?_
  rintro e w' ⟨r', rfl, h, hb⟩
  obtain rfl := at_one h hs
  exact ⟨rfl, hb⟩
end Go.Proofs.Ytffbmabhlgfjkaa.FreeSl
