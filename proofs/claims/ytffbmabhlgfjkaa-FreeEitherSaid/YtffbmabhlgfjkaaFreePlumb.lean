/- Arguments of the free laws, opened: lists of free pages, pages of texts, numbers, bools, one free page. -/
import Derived.Test.YtffbmabhlgfjkaaFreeOf
import Derived.Test.YtffbmabhlgfjkaaFreeCover
import Derived.Test.YtffbmabhlgfjkaaPlumb
import Derived.Deep.Slices
import Derived.Deep.Fields
namespace Go.Proofs.Ytffbmabhlgfjkaa.FreePlumb
open Go.ChangeShapes Go.WideShapes Go.RowKit Base Plumb FreePlain FreeMem FreeCellsOf FreeOf FreeCover

theorem list_of {α : Type} {p : Nat → α → Prop} : ∀ n : Nat, (∀ i, i < n → ∃ x, p i x) → ∃ l : List α, l.length = n ∧ ∀ i x, l[i]? = some x → p i x
  | 0, _ => ⟨[], rfl, fun i x h => by simp at h⟩
  | n + 1, h => by
    obtain ⟨l, hl, hp⟩ := list_of n fun i hi => h i (by omega)
    obtain ⟨x, hx⟩ := h n (by omega)
    refine ⟨l ++ [x], by simp [hl], fun i y hy => ?_⟩
    rcases Nat.lt_or_ge i l.length with q | q
    · rw [List.getElem?_append_left q] at hy; exact hp i y hy
    · rw [List.getElem?_append_right q] at hy
      rcases Nat.eq_zero_or_pos (i - l.length) with r | r
      · rw [r] at hy; simp at hy; subst hy; rw [show i = n by omega]; exact hx
      · rw [List.getElem?_eq_none (by simp; omega)] at hy; cases hy
section
variable {H : Type} {enc : TypeId × Value → H} {W : World} {base : Nat} {sp : Nat → Bool} {held : Bool}
/-- a list of free pages -/
theorem open_frees {fuel : Nat} {v : Value} {y : DataW H × List MemPlace} (h : DataW.trod enc Try.prog W base sp held fuel 22 [v] = some y) :
    ∃ (A : Option Addr) (c : Nat) (l : Fs), v = .slice A l.length c ∧ Row W W.heap.size A (fr l) ∧ l.length ≤ maxLen ∧ ∀ p ∈ l, W64 p.1 := by
  rcases Go.Deep.open_slice Try.underlying22 h with ⟨h0, _⟩ | ⟨a, len, cap, m, n, D, Pl, hcs, hb, hl, hm, hmm, hx, hi⟩
  · injection h0 with h0
    exact ⟨none, 0, [], h0, fun k v hv => by simp [fr] at hv, by simp [maxLen], by simp⟩
  · injection hcs with hcs
    have hC : Try.prog.cellsOf 25 = 2 := by kernel_rfl
    have c3 : Try.prog.cellsOf 3 = 1 := by kernel_rfl
    have hml : len ≤ m := by rw [hmm]; split <;> omega
    obtain ⟨ks, hkl, hks⟩ := list_of (p := fun i (x : Int × Int) => W64 x.1 ∧ W.cell? (a.add (i * 2)) = some (.int .i64 x.1) ∧ W.cell? ((a.add (i * 2)).add 1) = some (.int .i64 x.2)) len (fun i hil => by
      obtain ⟨cs', hc, ht⟩ := hi i (by omega)
      rw [hC] at hc
      obtain ⟨_, hcl, hat⟩ := World.cells?_some hc
      obtain ⟨xs, n', _, _, _, hxl, hf⟩ := DataW.trod_struct Try.underlying25 ht
      have f0 := hf 0 _ rfl
      have f1 := hf 1 _ rfl
      match cs', hcl with
      | [v0, v1], _ =>
        match xs, hxl with
        | [y0, y1], _ =>
          simp [c3] at f0
          simp [c3] at f1
          obtain ⟨z0, e0, _, w0⟩ := DataW.trod_int Try.underlying3 f0
          obtain ⟨z1, e1, _, w1⟩ := DataW.trod_int Try.underlying3 f1
          injection e0 with e0
          injection e1 with e1
          refine ⟨(z0, z1), w0, ?_, ?_⟩
          · have := hat 0 (by omega); rw [show (a.add (i * 2)).add 0 = a.add (i * 2) by simp [Addr.add]] at this; rw [this, ← e0]; rfl
          · have := hat 1 (by omega); rw [this, ← e1]; rfl)
    refine ⟨some a, cap, ks, by rw [hcs, hkl], fun k v hv => ?_, by omega, fun x hx => ?_⟩
    · have hk : k < ks.length * 2 := by rw [← fr_len]; exact (List.getElem?_eq_some_iff.1 hv).1
      obtain ⟨x, hx⟩ : ∃ x, ks[k / 2]? = some x := ⟨_, List.getElem?_eq_getElem (by omega)⟩
      obtain ⟨_, q0, q1⟩ := hks _ _ hx
      have hw := World.block_lt_of_cell? W _ q0
      rw [blk_add] at hw
      obtain ⟨e0, e1⟩ := fr_at hx
      refine ⟨a, rfl, hw, ?_⟩
      rcases Nat.mod_two_eq_zero_or_one k with r | r
      · rw [show k = k / 2 * 2 by omega] at hv ⊢
        rw [e0] at hv
        rw [q0, ← hv]
      · rw [show k = k / 2 * 2 + 1 by omega] at hv ⊢
        rw [e1] at hv
        rw [← hv, ← q1, Go.Deep.add_add]
    · obtain ⟨i, hi, rfl⟩ := List.getElem_of_mem hx
      exact (hks i _ (List.getElem?_eq_getElem hi)).1
/-- one free page -/
theorem open_free {v : Value} {d : DataW H} {p : List MemPlace} (hv : Value.okWide Try.prog W .any base 25 v) (h : DataW.Trod enc Try.prog W 0 (fun _ => true) true 25 v d p) :
    ∃ x y : Int, v = .agg #[.int .i64 x, .int .i64 y] := by
  have hC : Try.prog.cellsOf 25 = 2 := by kernel_rfl
  have c3 : Try.prog.cellsOf 3 = 1 := by kernel_rfl
  simp only [Value.okWide, Try.underlying25] at hv
  obtain ⟨cs, rfl, hsz, _⟩ := hv
  rw [hC] at hsz
  obtain ⟨l⟩ := cs
  match l, hsz with
  | [v0, v1], _ =>
    obtain ⟨fuel, hf⟩ := h
    obtain ⟨ys, n', _, _, _, hyl, hg⟩ := DataW.trod_struct Try.underlying25 hf
    have f0 := hg 0 _ rfl
    have f1 := hg 1 _ rfl
    match ys, hyl with
    | [y0, y1], _ =>
      simp [c3, Value.cells] at f0
      simp [c3, Value.cells] at f1
      obtain ⟨z0, e0, _, _⟩ := DataW.trod_int Try.underlying3 f0
      obtain ⟨z1, e1, _, _⟩ := DataW.trod_int Try.underlying3 f1
      injection e0 with e0
      injection e1 with e1
      subst e0 e1
      exact ⟨_, _, rfl⟩
/-- texts -/
theorem open_strsT {fuel : Nat} {v : Value} {y : DataW H × List MemPlace} (hf : DataW.trod enc Try.prog W 0 (fun _ => true) true fuel 39 [v] = some y) :
    ∃ (A : Option Addr) (c : Nat) (ps : List ByteArray), v = .slice A ps.length c ∧ Row W W.heap.size A (FreeCellsOf.strs ps) ∧ ps.length ≤ maxLen := by
  rcases open_strings Try.underlying39 Try.underlying9 (by kernel_rfl) hf with ⟨hcs, _⟩ | ⟨a, len, cap, ss, hcs, _, hl, hm, hz, _, hcell, hws⟩
  · injection hcs with hcs
    exact ⟨none, 0, [], hcs, Row.nil, by simp [maxLen]⟩
  · injection hcs with hcs
    simp only [if_true] at hz
    have hlen : (ss.take len).length = len := by rw [List.length_take]; omega
    refine ⟨some a, cap, ss.take len, by rw [hlen, hcs], fun k u hv => ?_, by omega⟩
    have hk : k < len := by
      rcases Nat.lt_or_ge k len with g | g
      · exact g
      · rw [List.getElem?_eq_none (by simp [FreeCellsOf.strs]; omega)] at hv; cases hv
    have hce := hcell k (by omega)
    refine ⟨a, rfl, ?_, ?_⟩
    · have := World.block_lt_of_cell? W _ hce
      rwa [blk_add] at this
    · rw [hce, ← hv, FreeCellsOf.strs, List.getElem?_map, List.getElem?_take, if_pos hk, List.getElem?_eq_getElem (by omega)]
      simp [List.getElem?_eq_getElem (show k < ss.length by omega)]
/-- pages of texts -/
theorem open_pages {fuel : Nat} {v : Value} {y : DataW H × List MemPlace} (h : DataW.trod enc Try.prog W 0 (fun _ => true) true fuel 33 [v] = some y) :
    ∃ (A : Option Addr) (c : Nat) (ps : List Ps), v = .slice A ps.length c ∧ Row W W.heap.size A (ps.map psv) ∧ (∀ p ∈ ps, Row W W.heap.size p.1 (FreeCellsOf.strs p.2.2)) ∧ ps.length ≤ maxLen ∧ ∀ p ∈ ps, p.2.2.length ≤ maxLen := by
  rcases Go.Deep.open_slice1 Try.underlying33 (by kernel_rfl) h with ⟨h0, _⟩ | ⟨a, len, cap, m, n, V, D, Pl, hcs, hb, hl, hm, hmm, hx, hi⟩
  · injection h0 with h0
    exact ⟨none, 0, [], h0, Row.nil, by simp, by simp [maxLen], by simp⟩
  · injection hcs with hcs
    have hml : len ≤ m := by rw [hmm]; split <;> omega
    obtain ⟨ps, hpl, hps⟩ := list_of (p := fun i (x : Ps) => W.cell? (a.add i) = some (psv x) ∧ Row W W.heap.size x.1 (FreeCellsOf.strs x.2.2) ∧ x.2.2.length ≤ maxLen) len (fun i hil => by
      obtain ⟨hc, ht⟩ := hi i (by omega)
      obtain ⟨B, d, qs, e, hrow, hlen⟩ := open_strsT ht
      exact ⟨(B, d, qs), by rw [hc, e]; rfl, hrow, hlen⟩)
    refine ⟨some a, cap, ps, by rw [hcs, hpl], fun k v hv => ?_, fun p hp => ?_, by omega, fun p hp => ?_⟩
    · rw [List.getElem?_map] at hv
      cases hk : ps[k]? with
      | none => rw [hk] at hv; cases hv
      | some b =>
        rw [hk] at hv
        simp at hv
        subst hv
        have q := (hps k b hk).1
        have hw := World.block_lt_of_cell? W _ q
        rw [blk_add] at hw
        exact ⟨a, rfl, hw, q⟩
    · obtain ⟨i, hi, rfl⟩ := List.getElem_of_mem hp
      exact (hps i _ (List.getElem?_eq_getElem hi)).2.1
    · obtain ⟨i, hi, rfl⟩ := List.getElem_of_mem hp
      exact (hps i _ (List.getElem?_eq_getElem hi)).2.2
/-- numbers -/
theorem open_nums {fuel : Nat} {v : Value} {y : DataW H × List MemPlace} (h : DataW.trod enc Try.prog W base sp held fuel 44 [v] = some y) :
    ∃ (A : Option Addr) (c : Nat) (ks : List Int), v = .slice A ks.length c ∧ Row W W.heap.size A (FreeCover.ints ks) ∧ ks.length ≤ maxLen ∧ ∀ x ∈ ks, W64 x := by
  rcases Go.Deep.open_slice1 Try.underlying44 (by kernel_rfl) h with ⟨h0, _⟩ | ⟨a, len, cap, m, n, V, D, Pl, hcs, hb, hl, hm, hmm, hx, hi⟩
  · injection h0 with h0
    exact ⟨none, 0, [], h0, Row.nil, by simp [maxLen], by simp⟩
  · injection hcs with hcs
    have hml : len ≤ m := by rw [hmm]; split <;> omega
    obtain ⟨ks, hkl, hks⟩ := list_of (p := fun i (x : Int) => W.cell? (a.add i) = some (.int .i64 x) ∧ W64 x) len (fun i hil => by
      obtain ⟨hc, ht⟩ := hi i (by omega)
      obtain ⟨z, e, _, w⟩ := DataW.trod_int Try.underlying3 ht
      injection e with e
      exact ⟨z, by rw [hc, e], w⟩)
    refine ⟨some a, cap, ks, by rw [hcs, hkl], fun k v hv => ?_, by omega, fun x hx => ?_⟩
    · rw [FreeCover.ints, List.getElem?_map] at hv
      cases hk : ks[k]? with
      | none => rw [hk] at hv; cases hv
      | some b =>
        rw [hk] at hv
        simp at hv
        subst hv
        have q := (hks k b hk).1
        have hw := World.block_lt_of_cell? W _ q
        rw [blk_add] at hw
        exact ⟨a, rfl, hw, q⟩
    · obtain ⟨i, hi, rfl⟩ := List.getElem_of_mem hx
      exact (hks i _ (List.getElem?_eq_getElem hi)).2
/-- bools -/
theorem open_bools {fuel : Nat} {v : Value} {y : DataW H × List MemPlace} (h : DataW.trod enc Try.prog W base sp held fuel 48 [v] = some y) :
    ∃ (A : Option Addr) (c : Nat) (bs : List Bool), v = .slice A bs.length c ∧ Row W W.heap.size A (bs.map .bool) ∧ bs.length ≤ maxLen := by
  rcases Go.Deep.open_slice1 Try.underlying48 (by kernel_rfl) h with ⟨h0, _⟩ | ⟨a, len, cap, m, n, V, D, Pl, hcs, hb, hl, hm, hmm, hx, hi⟩
  · injection h0 with h0
    exact ⟨none, 0, [], h0, Row.nil, by simp [maxLen]⟩
  · injection hcs with hcs
    have hml : len ≤ m := by rw [hmm]; split <;> omega
    obtain ⟨bs, hbl, hbs⟩ := list_of (p := fun i (b : Bool) => W.cell? (a.add i) = some (.bool b)) len (fun i hil => by
      obtain ⟨hc, ht⟩ := hi i (by omega)
      obtain ⟨b, e, _⟩ := DataW.trod_bool Try.underlying4 ht
      injection e with e
      exact ⟨b, by rw [hc, e]⟩)
    refine ⟨some a, cap, bs, by rw [hcs, hbl], fun k v hv => ?_, by omega⟩
    rw [List.getElem?_map] at hv
    cases hk : bs[k]? with
    | none => rw [hk] at hv; cases hv
    | some b =>
      rw [hk] at hv
      simp at hv
      subst hv
      have q := hbs k b hk
      have hw := World.block_lt_of_cell? W _ q
      rw [blk_add] at hw
      exact ⟨a, rfl, hw, q⟩
end
end Go.Proofs.Ytffbmabhlgfjkaa.FreePlumb
