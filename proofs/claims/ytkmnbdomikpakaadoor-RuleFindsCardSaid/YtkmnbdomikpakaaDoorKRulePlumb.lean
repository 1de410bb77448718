/- Arguments of the rule laws, opened: kinds and their rules, whatever the expressions' depth. -/
import Derived.Test.YtkmnbdomikpakaaDoorKPlumb
import Derived.Test.YtkmnbdomikpakaaDoorKRuleMem
import Derived.Deep.Fields
import Derived.Deep.Slices
namespace Go.Proofs.YtkmnbdomikpakaaDoor.RulePlumb
open Go.ChangeShapes Go.WideShapes Go.RowKit Base Plumb KeyPlain TuplePlain RulePlain RuleMem

theorem list_of {α : Type} {p : Nat → α → Prop} : ∀ n : Nat, (∀ i, i < n → ∃ x, p i x) → ∃ l : List α, l.length = n ∧ ∀ i (h : i < l.length), p i l[i]
  | 0, _ => ⟨[], rfl, fun i h => by simp at h⟩
  | n + 1, h => by
    obtain ⟨l, hl, hp⟩ := list_of n fun i hi => h i (by omega)
    obtain ⟨x, hx⟩ := h n (by omega)
    refine ⟨l ++ [x], by simp [hl], fun i hi => ?_⟩
    rcases Nat.lt_or_ge i l.length with q | q
    · rw [List.getElem_append_left q]; exact hp i q
    · obtain rfl : i = n := by simp at hi; omega
      rw [List.getElem_append_right q]
      simpa [hl] using hx
section
variable {H : Type} {enc : TypeId × Value → H} {P : Program} {W : World}
/-- things in a row, each of so many cells, are a slice of things -/
theorem slof_of {α : Type} {stride : Nat} {Q : α → List Value → Prop} {a : Addr} (len : Nat) (h : ∀ i, i < len → ∃ (x : α) (cs : List Value), Sees W W.heap.size (a.add (i * stride)) cs ∧ Q x cs) :
    ∃ xs : List α, xs.length = len ∧ SlOf W W.heap.size stride Q (some a) xs := by
  obtain ⟨l, hl, hp⟩ := list_of (p := fun i (z : α × List Value) => Sees W W.heap.size (a.add (i * stride)) z.2 ∧ Q z.1 z.2) len fun i hi => by
    obtain ⟨x, cs, h1, h2⟩ := h i hi
    exact ⟨(x, cs), h1, h2⟩
  refine ⟨l.map (·.1), by simp [hl], fun i => (l[i]?.map (·.2)).getD [], fun i hi => ?_⟩
  have hi' : i < l.length := by simpa using hi
  have := hp i hi'
  simp only [List.getElem_map, List.getElem?_eq_getElem hi', Option.map_some, Option.getD_some]
  exact ⟨⟨a, rfl, this.1⟩, this.2⟩
theorem open_els {t e : TypeId} {stride fuel : Nat} {v : Value} {y : DataW H × List MemPlace} (ht : P.underlying t = some (.slice e)) (hC : P.cellsOf e = stride) (h0 : 0 < stride) (h : DataW.trod enc P W 0 (fun _ => true) true fuel t [v] = some y) :
    v = .slice none 0 0 ∨ ∃ (a : Addr) (len cap n : Nat), fuel = n + 1 ∧ v = .slice (some a) len cap ∧ len ≤ cap ∧ cap ≤ maxLen ∧ ∀ i, i < len → ∃ (cs : List Value) (y' : DataW H × List MemPlace), Sees W W.heap.size (a.add (i * stride)) cs ∧ cs.length = stride ∧ DataW.trod enc P W 0 (fun _ => true) true n e cs = some y' := by
  rcases DataW.trod_slice ht h with ⟨h1, _⟩ | ⟨a, len, cap, elems, rest, n, hf, hcs, _, _, hl, hm, hlen, hel, _, _⟩
  · injection h1 with h1
    exact Or.inl h1
  · injection hcs with hcs
    refine Or.inr ⟨a, len, cap, n, hf, hcs, hl, hm, fun i hi => ?_⟩
    have key := hel i hi
    rw [List.getElem?_eq_getElem (by omega), hC] at key
    obtain ⟨cs, h1, h2⟩ := Option.bind_eq_some_iff.1 key
    obtain ⟨_, hcl, hat⟩ := World.cells?_some h1
    refine ⟨cs, _, ⟨?_, fun j u hu => ?_⟩, hcl, h2⟩
    · have q := hat 0 (by omega)
      rw [List.getElem?_eq_getElem (by omega)] at q
      have := World.block_lt_of_cell? W _ q
      rwa [blk_add] at this
    · rw [hat j (by have := (List.getElem?_eq_some_iff.1 hu).1; omega)]
      exact hu
end
section
variable {H : Type} {enc : TypeId × Value → H} {W : World}
set_option maxRecDepth 100000 in
theorem open_expr : ∀ (fuel : Nat) (cs : List Value) (y : DataW H × List MemPlace), DataW.trod enc Tryd.prog W 0 (fun _ => true) true fuel 34 cs = some y → ∃ e, Lay W W.heap.size e cs := by
  intro fuel
  induction fuel using Nat.strongRecOn with
  | ind fuel ih =>
    intro cs y h
    have hC : Tryd.prog.cellsOf 34 = 4 := by kernel_rfl
    have c9 : Tryd.prog.cellsOf 9 = 1 := by kernel_rfl
    have cS : Tryd.prog.cellsOf 32 = 1 := by kernel_rfl
    obtain ⟨ys, n, hfn, _, hcl, hyl, hf⟩ := DataW.trod_struct Tryd.underlying34 h
    rw [hC] at hcl
    have f0 := hf 0 _ rfl
    have f1 := hf 1 _ rfl
    have f2 := hf 2 _ rfl
    have f3 := hf 3 _ rfl
    match cs, hcl with
    | [v0, v1, v2, v3], _ =>
      match ys, hyl with
      | [y0, y1, y2, y3], _ =>
        simp [c9] at f0 f1 f2
        simp [cS] at f3
        obtain ⟨s0, e0, _, _⟩ := DataW.trod_string Tryd.underlying9 f0
        obtain ⟨s1, e1, _, _⟩ := DataW.trod_string Tryd.underlying9 f1
        obtain ⟨s2, e2, _, _⟩ := DataW.trod_string Tryd.underlying9 f2
        injection e0 with e0
        injection e1 with e1
        injection e2 with e2
        subst e0 e1 e2
        rcases open_els Tryd.underlying32 hC (by omega) f3 with rfl | ⟨a, len, cap, m, hm, rfl, hl, hmx, hel⟩
        · exact ⟨.mk s0 s1 s2 [], Lay.of (ps := []) ⟨fun _ => [], fun i hi => absurd hi (by simp)⟩ (by simp [maxLen])⟩
        · obtain ⟨xs, hxl, hxs⟩ := slof_of (W := W) (Q := Lay W W.heap.size) (a := a) (stride := 4) len fun i hi => by
            obtain ⟨cs', y', g1, _, g3⟩ := hel i hi
            obtain ⟨e, he⟩ := ih m (by omega) cs' y' g3
            exact ⟨e, cs', g1, he⟩
          subst hxl
          exact ⟨.mk s0 s1 s2 xs, Lay.of hxs (by omega)⟩
set_option maxRecDepth 100000 in
theorem open_rule {fuel : Nat} {cs : List Value} {y : DataW H × List MemPlace} (h : DataW.trod enc Tryd.prog W 0 (fun _ => true) true fuel 47 cs = some y) : ∃ r, LayR W W.heap.size r cs := by
  have hC : Tryd.prog.cellsOf 47 = 5 := by kernel_rfl
  have c9 : Tryd.prog.cellsOf 9 = 1 := by kernel_rfl
  have c4 : Tryd.prog.cellsOf 34 = 4 := by kernel_rfl
  obtain ⟨ys, n, _, _, hcl, hyl, hf⟩ := DataW.trod_struct Tryd.underlying47 h
  rw [hC] at hcl
  have f0 := hf 0 _ rfl
  have f1 := hf 1 _ rfl
  match cs, hcl with
  | [v0, v1, v2, v3, v4], _ =>
    match ys, hyl with
    | [y0, y1], _ =>
      simp [c9] at f0
      simp [c4] at f1
      obtain ⟨s0, e0, _, _⟩ := DataW.trod_string Tryd.underlying9 f0
      injection e0 with e0
      subst e0
      obtain ⟨e, he⟩ := open_expr _ _ _ f1
      exact ⟨⟨s0, e⟩, _, he, rfl⟩
/-- a kind's rules reach no further than their slice may -/
def KCap (q : List Value) : Prop := ∀ K n c, q[1]? = some (.slice K n c) → n ≤ c
set_option maxRecDepth 100000 in
theorem open_kind {fuel : Nat} {cs : List Value} {y : DataW H × List MemPlace} (h : DataW.trod enc Tryd.prog W 0 (fun _ => true) true fuel 42 cs = some y) : ∃ k, LayK W W.heap.size k cs ∧ KCap cs := by
  have hC : Tryd.prog.cellsOf 42 = 2 := by kernel_rfl
  have hR : Tryd.prog.cellsOf 47 = 5 := by kernel_rfl
  have c9 : Tryd.prog.cellsOf 9 = 1 := by kernel_rfl
  have cS : Tryd.prog.cellsOf 40 = 1 := by kernel_rfl
  obtain ⟨ys, n, _, _, hcl, hyl, hf⟩ := DataW.trod_struct Tryd.underlying42 h
  rw [hC] at hcl
  have f0 := hf 0 _ rfl
  have f1 := hf 1 _ rfl
  match cs, hcl with
  | [v0, v1], _ =>
    match ys, hyl with
    | [y0, y1], _ =>
      simp [c9] at f0
      simp [cS] at f1
      obtain ⟨s0, e0, _, _⟩ := DataW.trod_string Tryd.underlying9 f0
      injection e0 with e0
      subst e0
      rcases open_els Tryd.underlying40 hR (by omega) f1 with rfl | ⟨a, len, cap, m, hm, rfl, hl, hmx, hel⟩
      · refine ⟨⟨s0, []⟩, ⟨none, 0, rfl, ⟨fun _ => [], fun i hi => absurd hi (by simp)⟩, by simp [maxLen]⟩, fun K n c hq => ?_⟩
        simp at hq
        omega
      · obtain ⟨xs, hxl, hxs⟩ := slof_of (W := W) (Q := LayR W W.heap.size) (a := a) (stride := 5) len fun i hi => by
          obtain ⟨cs', y', g1, _, g3⟩ := hel i hi
          obtain ⟨r, hr⟩ := open_rule g3
          exact ⟨r, cs', g1, hr⟩
        subst hxl
        refine ⟨⟨s0, xs⟩, ⟨some a, cap, rfl, hxs, by show xs.length ≤ maxLen; omega⟩, fun K n c hq => ?_⟩
        simp at hq
        omega
set_option maxRecDepth 100000 in
/-- a slice of kinds -/
theorem open_kinds {v : Value} {d : DataW H} {p : List MemPlace} {base : Nat} (hv : Value.okWide Tryd.prog W .any base 23 v) (h : DataW.Trod enc Tryd.prog W 0 (fun _ => true) true 23 v d p) :
    ∃ (A : Option Addr) (c : Nat) (l : List Kd), v = .slice A l.length c ∧ SlOf W W.heap.size 2 (fun k q => LayK W W.heap.size k q ∧ KCap q) A l ∧ LayL W W.heap.size A l ∧ l.length ≤ maxLen ∧ l.length ≤ c := by
  have hC : Tryd.prog.cellsOf 42 = 2 := by kernel_rfl
  obtain ⟨_, _, _, rfl⟩ := okWide_slice Tryd.underlying23 hv
  obtain ⟨fuel, hf⟩ := h
  simp only [Value.cells] at hf
  rcases open_els Tryd.underlying23 hC (by omega) hf with he | ⟨a, len, cap, m, hm, he, hl, hmx, hel⟩
  · injection he with h1 h2 h3
    subst h1 h2 h3
    exact ⟨none, 0, [], rfl, ⟨fun _ => [], fun i hi => absurd hi (by simp)⟩, ⟨fun _ => [], fun i hi => absurd hi (by simp)⟩, by simp [maxLen], by simp⟩
  · injection he with h1 h2 h3
    subst h1 h2 h3
    obtain ⟨xs, hxl, hxs⟩ := slof_of (W := W) (Q := fun k q => LayK W W.heap.size k q ∧ KCap q) (a := a) (stride := 2) _ fun i hi => by
      obtain ⟨cs', y', g1, _, g3⟩ := hel i hi
      obtain ⟨k, hk⟩ := open_kind g3
      exact ⟨k, cs', g1, hk⟩
    subst hxl
    exact ⟨some a, _, xs, rfl, hxs, hxs.imp (fun _ _ h => h) fun _ _ _ h => h.1, by omega, hl⟩
end
end Go.Proofs.YtkmnbdomikpakaaDoor.RulePlumb
