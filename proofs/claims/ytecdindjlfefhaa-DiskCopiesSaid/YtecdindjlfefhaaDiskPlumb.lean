/- Arguments of the disk's laws, opened: acts, what is kept, bools. -/
import Derived.Test.YtecdindjlfefhaaDiskDo
import Derived.Test.YtecdindjlfefhaaPlumb
import Derived.Deep.Slices
import Derived.Deep.Fields
namespace Go.Proofs.Ytecdindjlfefhaa.DiskPlumb
open Go.ChangeShapes Go.WideShapes Go.RowKit Base Plumb DiskPlain DiskMem DiskRead DiskCrash DiskDo

/-- an act's cells -/
def actCells (x : Ac) (K : Option Addr) (ck : Nat) : List Value := [.int .i64 x.kind, .int .i64 x.n, .int .i64 x.page, .int .i64 x.at_, .string x.s, .slice K x.kept.length ck]
/-- acts that a slice reads -/
def Acts (W : World) (A : Option Addr) (xs : List Ac) : Prop :=
  ∀ i x, xs[i]? = some x → AcOk x ∧ ∃ ab ao K ck, A = some ⟨ab, ao, none⟩ ∧ ab < W.heap.size ∧ (∀ j v, (actCells x K ck)[j]? = some v → W.cell? ⟨ab, ao + i * 6 + j, none⟩ = some v) ∧ Row W W.heap.size K (keptCells x.kept)
theorem Acts.below {W w : World} {A : Option Addr} {xs : List Ac} (h : Acts W A xs) (hb : Below W.heap.size W w) : Acts w A xs := fun i x hx => by
  obtain ⟨h1, ab, ao, K, ck, h2, h3, h4, h5⟩ := h i x hx
  exact ⟨h1, ab, ao, K, ck, h2, Nat.lt_of_lt_of_le h3 hb.size, fun j v hv => (hb.cell (p := ⟨ab, ao + i * 6 + j, none⟩) h3).trans (h4 j v hv), h5.belowSize hb⟩
theorem list_of {α : Type} {p : Nat → α → Prop} : ∀ n : Nat, (∀ i, i < n → ∃ x, p i x) → ∃ l : List α, l.length = n ∧ ∀ i x, l[i]? = some x → p i x
  | 0, _ => ⟨[], rfl, fun i x h => by simp at h⟩
  | n + 1, h => by
    obtain ⟨l, hl, hp⟩ := list_of n fun i hi => h i (by omega)
    obtain ⟨x, hx⟩ := h n (by omega)
    refine ⟨l ++ [x], by simp [hl], fun i y hy => ?_⟩
    rcases Nat.lt_or_ge i l.length with q | q
    · rw [List.getElem?_append_left q] at hy; exact hp i y hy
    · rw [List.getElem?_append_right q] at hy
      rcases Nat.eq_zero_or_pos (i - l.length) with r | r
      · rw [r] at hy; simp at hy; subst hy; rw [show i = n by omega]; exact hx
      · rw [List.getElem?_eq_none (by simp; omega)] at hy; cases hy
theorem spot_none {W : World} {a : Addr} {j : Nat} {v : Value} (h : W.cell? (a.add j) = some v) (hj : j = 0 ∨ a.spot = none) : a = ⟨a.block, a.off, none⟩ := by
  obtain ⟨b, o, sp⟩ := a
  rcases hj with rfl | hj
  · cases sp with
    | none => rfl
    | some q => simp [World.cell?, Addr.add] at h; split at h <;> simp_all
  · simp at hj; subst hj; rfl
section
variable {H : Type} {enc : TypeId × Value → H} {W : World} {base : Nat} {sp : Nat → Bool} {held : Bool}
/-- a slice of what is kept -/
theorem open_torns {fuel : Nat} {v : Value} {y : DataW H × List MemPlace} (h : DataW.trod enc Try.prog W base sp held fuel 33 [v] = some y) :
    ∃ (K : Option Addr) (ck : Nat) (ks : List (Int × Nat)), v = .slice K ks.length ck ∧ Row W W.heap.size K (keptCells ks) ∧ (∀ x ∈ ks, x.2 < 256) ∧ ks.length ≤ maxLen := by
  rcases Go.Deep.open_slice Try.underlying33 h with ⟨h0, _⟩ | ⟨a, len, cap, m, n, D, Pl, hcs, hb, hl, hm, hmm, hx, hi⟩
  · injection h0 with h0
    exact ⟨none, 0, [], h0, fun k v hv => by simp [keptCells] at hv, by simp, by simp [maxLen]⟩
  · injection hcs with hcs
    have hC : Try.prog.cellsOf 52 = 2 := by kernel_rfl
    have c3 : Try.prog.cellsOf 3 = 1 := by kernel_rfl
    have c5 : Try.prog.cellsOf 5 = 1 := by kernel_rfl
    have hml : len ≤ m := by rw [hmm]; split <;> omega
    obtain ⟨ks, hkl, hks⟩ := list_of (p := fun i (x : Int × Nat) => x.2 < 256 ∧ W.cell? (a.add (i * 2)) = some (.int .i64 x.1) ∧ W.cell? ((a.add (i * 2)).add 1) = some (.int .u8 (x.2 : Int))) len (fun i hil => by
      obtain ⟨cs', hc, ht⟩ := hi i (by omega)
      rw [hC] at hc
      obtain ⟨_, hcl, hat⟩ := World.cells?_some hc
      obtain ⟨xs, n', _, _, _, hxl, hf⟩ := DataW.trod_struct Try.underlying52 ht
      have f0 := hf 0 _ rfl
      have f1 := hf 1 _ rfl
      match cs', hcl with
      | [v0, v1], _ =>
        match xs, hxl with
        | [y0, y1], _ =>
          simp [c3] at f0
          simp [c5] at f1
          obtain ⟨z0, e0, _, w0⟩ := DataW.trod_int Try.underlying3 f0
          obtain ⟨z1, e1, _, w1⟩ := DataW.trod_int Try.underlying5 f1
          injection e0 with e0
          injection e1 with e1
          have hz : 0 ≤ z1 ∧ z1 ≤ 255 := by simpa [Lit.wf, IntKind.min, IntKind.max, IntKind.signed, IntKind.bits] using w1
          refine ⟨(z0, z1.toNat), by show z1.toNat < 256; omega, ?_, ?_⟩
          · have := hat 0 (by omega); rw [show (a.add (i * 2)).add 0 = a.add (i * 2) by simp [Addr.add]] at this; rw [this, ← e0]; rfl
          · have := hat 1 (by omega); rw [this, show ((z0, z1.toNat) : Int × Nat).2 = z1.toNat from rfl, show ((z1.toNat : Nat) : Int) = z1 by omega, ← e1]; rfl)
    refine ⟨some a, cap, ks, by rw [hcs, hkl], fun k v hv => ?_, fun x hx => ?_, by omega⟩
    · have hk : k < ks.length * 2 := by rw [← kept_len]; exact (List.getElem?_eq_some_iff.1 hv).1
      obtain ⟨x, hx⟩ : ∃ x, ks[k / 2]? = some x := ⟨_, List.getElem?_eq_getElem (by omega)⟩
      obtain ⟨_, q0, q1⟩ := hks _ _ hx
      have hw := World.block_lt_of_cell? W _ q0
      rw [blk_add] at hw
      obtain ⟨e0, e1⟩ := kept_at hx
      refine ⟨a, rfl, hw, ?_⟩
      rcases Nat.mod_two_eq_zero_or_one k with r | r
      · rw [show k = k / 2 * 2 by omega] at hv ⊢
        rw [e0] at hv
        rw [q0, ← hv]
      · rw [show k = k / 2 * 2 + 1 by omega] at hv ⊢
        rw [e1] at hv
        rw [← hv, ← q1, Go.Deep.add_add]
    · obtain ⟨i, hi, rfl⟩ := List.getElem_of_mem hx
      exact (hks i _ (List.getElem?_eq_getElem hi)).1
/-- a slice of acts -/
theorem open_acts {fuel : Nat} {v : Value} {y : DataW H × List MemPlace} (h : DataW.trod enc Try.prog W base sp held fuel 22 [v] = some y) :
    ∃ (A : Option Addr) (c : Nat) (xs : List Ac), v = .slice A xs.length c ∧ Acts W A xs ∧ xs.length ≤ maxLen := by
  rcases Go.Deep.open_slice Try.underlying22 h with ⟨h0, _⟩ | ⟨a, len, cap, m, n, D, Pl, hcs, hb, hl, hm, hmm, hx, hi⟩
  · injection h0 with h0
    exact ⟨none, 0, [], h0, fun i x hx => by simp at hx, by simp [maxLen]⟩
  · injection hcs with hcs
    have hC : Try.prog.cellsOf 35 = 6 := by kernel_rfl
    have c3 : Try.prog.cellsOf 3 = 1 := by kernel_rfl
    have c9 : Try.prog.cellsOf 9 = 1 := by kernel_rfl
    have c33 : Try.prog.cellsOf 33 = 1 := by kernel_rfl
    have hml : len ≤ m := by rw [hmm]; split <;> omega
    obtain ⟨xs, hxl, hxs⟩ := list_of (p := fun i (x : Ac) => AcOk x ∧ ∃ ab ao K ck, a = ⟨ab, ao, none⟩ ∧ ab < W.heap.size ∧ (∀ j v, (actCells x K ck)[j]? = some v → W.cell? ⟨ab, ao + i * 6 + j, none⟩ = some v) ∧ Row W W.heap.size K (keptCells x.kept)) len (fun i hil => by
      obtain ⟨cs', hc, ht⟩ := hi i (by omega)
      rw [hC] at hc
      obtain ⟨_, hcl, hat⟩ := World.cells?_some hc
      obtain ⟨ys, n', _, _, _, hyl, hf⟩ := DataW.trod_struct Try.underlying35 ht
      have f0 := hf 0 _ rfl
      have f1 := hf 1 _ rfl
      have f2 := hf 2 _ rfl
      have f3 := hf 3 _ rfl
      have f4 := hf 4 _ rfl
      have f5 := hf 5 _ rfl
      match cs', hcl with
      | [v0, v1, v2, v3, v4, v5], _ =>
        match ys, hyl with
        | [y0, y1, y2, y3, y4, y5], _ =>
          simp [c3] at f0 f1 f2 f3
          simp [c9] at f4
          simp [c33] at f5
          obtain ⟨z0, e0, _, _⟩ := DataW.trod_int Try.underlying3 f0
          obtain ⟨z1, e1, _, w1⟩ := DataW.trod_int Try.underlying3 f1
          obtain ⟨z2, e2, _, _⟩ := DataW.trod_int Try.underlying3 f2
          obtain ⟨z3, e3, _, _⟩ := DataW.trod_int Try.underlying3 f3
          obtain ⟨s, e4, _, hs⟩ := DataW.trod_string Try.underlying9 f4
          obtain ⟨K, ck, ks, rfl, hrow, hz, hkl⟩ := open_torns f5
          injection e0 with e0
          injection e1 with e1
          injection e2 with e2
          injection e3 with e3
          injection e4 with e4
          subst e0 e1 e2 e3 e4
          have hn : -9223372036854775808 ≤ z1 ∧ z1 ≤ 9223372036854775807 := by simpa [Lit.wf, IntKind.min, IntKind.max, IntKind.signed, IntKind.bits] using w1
          have q0 := hat 0 (by omega)
          rw [Go.Deep.add_add] at q0
          have hsn : a.spot = none ∨ i = 0 := by
            rcases Nat.eq_zero_or_pos i with r | r
            · exact .inr r
            · left
              obtain ⟨b, o, sp⟩ := a
              have q1 := hat 0 (by omega)
              cases sp with
              | none => rfl
              | some q => 
                exfalso
                obtain ⟨cs0, hc0, _⟩ := hi 0 (by omega)
                rw [hC] at hc0
                obtain ⟨_, hcl0, hat0⟩ := World.cells?_some hc0
                have q2 := hat0 0 (by omega)
                rw [List.getElem?_eq_getElem (by omega), Go.Deep.add_add] at q2
                simp [World.cell?, Addr.add] at q2
                split at q2 <;> simp_all
          have ha : a = ⟨a.block, a.off, none⟩ := by
            obtain ⟨b, o, sp⟩ := a
            rcases hsn with r | r
            · simp at r; subst r; rfl
            · subst r
              simp only [Nat.zero_mul, Nat.add_zero] at q0
              exact spot_none (j := 0) (v := .int .i64 z0) (by simpa using q0) (.inl rfl)
          have hblk : a.block < W.heap.size := by
            have := World.block_lt_of_cell? W _ (show W.cell? (a.add (i * 6 + 0)) = some (.int .i64 z0) from q0)
            rwa [blk_add] at this
          refine ⟨⟨z0, z1, z2, z3, s, ks⟩, ⟨hn.2, hz, hs, hkl⟩, a.block, a.off, K, ck, ha, hblk, fun j v hv => ?_, hrow⟩
          have hj : j < 6 := (List.getElem?_eq_some_iff.1 hv).1
          have := hat j hj
          rw [Go.Deep.add_add] at this
          rw [ha, add_blk] at this
          rw [show a.off + i * 6 + j = a.off + (i * 6 + j) by omega, this]
          exact hv)
    refine ⟨some a, cap, xs, by rw [hcs, hxl], fun i x hx => ?_, by omega⟩
    obtain ⟨h1, ab, ao, K, ck, h2, h3, h4, h5⟩ := hxs i x hx
    exact ⟨h1, ab, ao, K, ck, by rw [h2], h3, h4, h5⟩
/-- a slice of bools -/
theorem open_bools {fuel : Nat} {v : Value} {y : DataW H × List MemPlace} (h : DataW.trod enc Try.prog W base sp held fuel 43 [v] = some y) :
    ∃ (A : Option Addr) (c : Nat) (bs : List Bool), v = .slice A bs.length c ∧ Row W W.heap.size A (bs.map .bool) ∧ bs.length ≤ maxLen := by
  rcases Go.Deep.open_slice Try.underlying43 h with ⟨h0, _⟩ | ⟨a, len, cap, m, n, D, Pl, hcs, hb, hl, hm, hmm, hx, hi⟩
  · injection h0 with h0
    exact ⟨none, 0, [], h0, Row.nil, by simp [maxLen]⟩
  · injection hcs with hcs
    have hC : Try.prog.cellsOf 4 = 1 := by kernel_rfl
    have hml : len ≤ m := by rw [hmm]; split <;> omega
    obtain ⟨bs, hbl, hbs⟩ := list_of (p := fun i (b : Bool) => W.cell? (a.add i) = some (.bool b)) len (fun i hil => by
      obtain ⟨cs', hc, ht⟩ := hi i (by omega)
      rw [hC, Nat.mul_one] at hc
      obtain ⟨_, hcl, hat⟩ := World.cells?_some hc
      obtain ⟨b, rfl, _⟩ := DataW.trod_bool Try.underlying4 ht
      have := hat 0 (by omega)
      rw [show (a.add i).add 0 = a.add i by simp [Addr.add]] at this
      exact ⟨b, this⟩)
    refine ⟨some a, cap, bs, by rw [hcs, hbl], fun k v hv => ?_, by omega⟩
    rw [List.getElem?_map] at hv
    cases hk : bs[k]? with
    | none => rw [hk] at hv; cases hv
    | some b =>
      rw [hk] at hv
      simp at hv
      subst hv
      have q := hbs k b hk
      have hw := World.block_lt_of_cell? W _ q
      rw [blk_add] at hw
      exact ⟨a, rfl, hw, q⟩
end
end Go.Proofs.Ytecdindjlfefhaa.DiskPlumb
