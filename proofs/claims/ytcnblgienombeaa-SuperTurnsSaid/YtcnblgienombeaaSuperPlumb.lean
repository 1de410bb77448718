/- Arguments of the super laws, opened: a super, a list of supers. -/
import Derived.Test.YtcnblgienombeaaSuperRefCheck
import Derived.Test.YtcnblgienombeaaPlumb
import Derived.Deep.Slices
import Derived.Deep.Fields
namespace Go.Proofs.Ytcnblgienombeaa.SuperPlumb
open Go.ChangeShapes Go.WideShapes Go.RowKit Base Plumb SuperPlain SuperRefCheck

/-- numbers that an int holds -/
def In (z : Int) : Prop := -9223372036854775808 ≤ z ∧ z ≤ 9223372036854775807
def InS (x : Sp) : Prop := In x.ep ∧ In x.root ∧ In x.free ∧ In x.pages
theorem in_wf {z : Int} (h : (Lit.int .i64 z).wf = true) : In z := by
  simpa [In, Lit.wf, IntKind.min, IntKind.max, IntKind.signed, IntKind.bits] using h
/-- a list of supers, as cells -/
def fls (l : List Sp) : List Value := l.flatMap fun x => [.int .i64 x.ep, .int .i64 x.root, .int .i64 x.free, .int .i64 x.pages]
theorem fls_cons (x : Sp) (l : List Sp) : fls (x :: l) = .int .i64 x.ep :: .int .i64 x.root :: .int .i64 x.free :: .int .i64 x.pages :: fls l := rfl
theorem fls_len : ∀ l : List Sp, (fls l).length = l.length * 4
  | [] => rfl
  | x :: l => by rw [fls_cons]; simp [fls_len l]; omega
theorem fls_at : ∀ {l : List Sp} {k : Nat} {x : Sp}, l[k]? = some x → (fls l)[k * 4]? = some (.int .i64 x.ep) ∧ (fls l)[k * 4 + 1]? = some (.int .i64 x.root) ∧ (fls l)[k * 4 + 2]? = some (.int .i64 x.free) ∧ (fls l)[k * 4 + 3]? = some (.int .i64 x.pages)
  | [], _, _, h => by simp at h
  | y :: l, 0, x, h => by
    simp at h
    subst h
    exact ⟨rfl, rfl, rfl, rfl⟩
  | y :: l, k + 1, x, h => by
    obtain ⟨h1, h2, h3, h4⟩ := fls_at (l := l) (k := k) (x := x) (by simpa using h)
    have e : (k + 1) * 4 = k * 4 + 4 := by omega
    rw [fls_cons, e]
    exact ⟨by simpa using h1, by simpa using h2, by simpa using h3, by simpa using h4⟩
theorem list_of {α : Type} {p : Nat → α → Prop} : ∀ n : Nat, (∀ i, i < n → ∃ x, p i x) → ∃ l : List α, l.length = n ∧ ∀ i x, l[i]? = some x → p i x
  | 0, _ => ⟨[], rfl, fun i x h => by simp at h⟩
  | n + 1, h => by
    obtain ⟨l, hl, hp⟩ := list_of n fun i hi => h i (by omega)
    obtain ⟨x, hx⟩ := h n (by omega)
    refine ⟨l ++ [x], by simp [hl], fun i y hy => ?_⟩
    rcases Nat.lt_or_ge i l.length with q | q
    · rw [List.getElem?_append_left q] at hy; exact hp i y hy
    · rw [List.getElem?_append_right q] at hy
      rcases Nat.eq_zero_or_pos (i - l.length) with r | r
      · rw [r] at hy; simp at hy; subst hy; rw [show i = n by omega]; exact hx
      · rw [List.getElem?_eq_none (by simp; omega)] at hy; cases hy
section
variable {H : Type} {enc : TypeId × Value → H} {W : World} {base : Nat} {sp : Nat → Bool} {held : Bool}
set_option maxRecDepth 100000 in
/-- a super -/
theorem open_super {v : Value} {d : DataW H} {p : List MemPlace} (hv : Value.okWide Try.prog W .any base 23 v) (h : DataW.Trod enc Try.prog W 0 (fun _ => true) true 23 v d p) :
    ∃ x : Sp, v = sv x ∧ InS x := by
  have hC : Try.prog.cellsOf 23 = 4 := by kernel_rfl
  have c3 : Try.prog.cellsOf 3 = 1 := by kernel_rfl
  simp only [Value.okWide, Try.underlying23] at hv
  obtain ⟨cs, rfl, hsz, _⟩ := hv
  rw [hC] at hsz
  obtain ⟨l⟩ := cs
  match l, hsz with
  | [v0, v1, v2, v3], _ =>
    obtain ⟨fuel, hf⟩ := h
    obtain ⟨ys, n', _, _, _, hyl, hg⟩ := DataW.trod_struct Try.underlying23 hf
    have f0 := hg 0 _ rfl
    have f1 := hg 1 _ rfl
    have f2 := hg 2 _ rfl
    have f3 := hg 3 _ rfl
    match ys, hyl with
    | [y0, y1, y2, y3], _ =>
      simp [c3, Value.cells] at f0 f1 f2 f3
      obtain ⟨z0, e0, _, w0⟩ := DataW.trod_int Try.underlying3 f0
      obtain ⟨z1, e1, _, w1⟩ := DataW.trod_int Try.underlying3 f1
      obtain ⟨z2, e2, _, w2⟩ := DataW.trod_int Try.underlying3 f2
      obtain ⟨z3, e3, _, w3⟩ := DataW.trod_int Try.underlying3 f3
      injection e0 with e0
      injection e1 with e1
      injection e2 with e2
      injection e3 with e3
      subst e0 e1 e2 e3
      exact ⟨⟨z0, z1, z2, z3⟩, rfl, in_wf w0, in_wf w1, in_wf w2, in_wf w3⟩
set_option maxRecDepth 100000 in
/-- a list of supers -/
theorem open_supers {fuel : Nat} {v : Value} {y : DataW H × List MemPlace} (h : DataW.trod enc Try.prog W base sp held fuel 47 [v] = some y) :
    ∃ (A : Option Addr) (c : Nat) (l : List Sp), v = .slice A l.length c ∧ Row W W.heap.size A (fls l) ∧ l.length ≤ maxLen ∧ ∀ x ∈ l, InS x := by
  rcases Go.Deep.open_slice Try.underlying47 h with ⟨h0, _⟩ | ⟨a, len, cap, m, n, D, Pl, hcs, hb, hl, hm, hmm, hx, hi⟩
  · injection h0 with h0
    exact ⟨none, 0, [], h0, fun k v hv => by simp [fls] at hv, by simp [maxLen], by simp⟩
  · injection hcs with hcs
    have hC : Try.prog.cellsOf 23 = 4 := by kernel_rfl
    have c3 : Try.prog.cellsOf 3 = 1 := by kernel_rfl
    have hml : len ≤ m := by rw [hmm]; split <;> omega
    obtain ⟨ks, hkl, hks⟩ := list_of (p := fun i (x : Sp) => InS x ∧ W.cell? (a.add (i * 4)) = some (.int .i64 x.ep) ∧ W.cell? ((a.add (i * 4)).add 1) = some (.int .i64 x.root) ∧ W.cell? ((a.add (i * 4)).add 2) = some (.int .i64 x.free) ∧ W.cell? ((a.add (i * 4)).add 3) = some (.int .i64 x.pages)) len (fun i hil => by
      obtain ⟨cs', hc, ht⟩ := hi i (by omega)
      rw [hC] at hc
      obtain ⟨_, hcl, hat⟩ := World.cells?_some hc
      obtain ⟨xs, n', _, _, _, hxl, hf⟩ := DataW.trod_struct Try.underlying23 ht
      have f0 := hf 0 _ rfl
      have f1 := hf 1 _ rfl
      have f2 := hf 2 _ rfl
      have f3 := hf 3 _ rfl
      match cs', hcl with
      | [v0, v1, v2, v3], _ =>
        match xs, hxl with
        | [y0, y1, y2, y3], _ =>
          simp [c3] at f0 f1 f2 f3
          obtain ⟨z0, e0, _, w0⟩ := DataW.trod_int Try.underlying3 f0
          obtain ⟨z1, e1, _, w1⟩ := DataW.trod_int Try.underlying3 f1
          obtain ⟨z2, e2, _, w2⟩ := DataW.trod_int Try.underlying3 f2
          obtain ⟨z3, e3, _, w3⟩ := DataW.trod_int Try.underlying3 f3
          injection e0 with e0
          injection e1 with e1
          injection e2 with e2
          injection e3 with e3
          refine ⟨⟨z0, z1, z2, z3⟩, ⟨in_wf w0, in_wf w1, in_wf w2, in_wf w3⟩, ?_, ?_, ?_, ?_⟩
          · have := hat 0 (by omega); rw [show (a.add (i * 4)).add 0 = a.add (i * 4) by simp [Addr.add]] at this; rw [this, ← e0]; rfl
          · have := hat 1 (by omega); rw [this, ← e1]; rfl
          · have := hat 2 (by omega); rw [this, ← e2]; rfl
          · have := hat 3 (by omega); rw [this, ← e3]; rfl)
    refine ⟨some a, cap, ks, by rw [hcs, hkl], fun k v hv => ?_, by omega, fun x hx => ?_⟩
    · have hk : k < ks.length * 4 := by rw [← fls_len]; exact (List.getElem?_eq_some_iff.1 hv).1
      obtain ⟨x, hx⟩ : ∃ x, ks[k / 4]? = some x := ⟨_, List.getElem?_eq_getElem (by omega)⟩
      obtain ⟨_, q0, q1, q2, q3⟩ := hks _ _ hx
      have hw := World.block_lt_of_cell? W _ q0
      rw [blk_add] at hw
      obtain ⟨e0, e1, e2, e3⟩ := fls_at hx
      refine ⟨a, rfl, hw, ?_⟩
      have : k % 4 = 0 ∨ k % 4 = 1 ∨ k % 4 = 2 ∨ k % 4 = 3 := by omega
      rcases this with r | r | r | r
      · rw [show k = k / 4 * 4 by omega] at hv ⊢
        rw [e0] at hv
        rw [q0, ← hv]
      · rw [show k = k / 4 * 4 + 1 by omega] at hv ⊢
        rw [e1] at hv
        rw [← hv, ← q1, Go.Deep.add_add]
      · rw [show k = k / 4 * 4 + 2 by omega] at hv ⊢
        rw [e2] at hv
        rw [← hv, ← q2, Go.Deep.add_add]
      · rw [show k = k / 4 * 4 + 3 by omega] at hv ⊢
        rw [e3] at hv
        rw [← hv, ← q3, Go.Deep.add_add]
    · obtain ⟨i, hi, rfl⟩ := List.getElem_of_mem hx
      exact (hks i _ (List.getElem?_eq_getElem hi)).1
end
end Go.Proofs.Ytcnblgienombeaa.SuperPlumb
