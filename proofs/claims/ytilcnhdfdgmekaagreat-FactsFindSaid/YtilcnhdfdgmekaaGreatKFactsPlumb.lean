/- Arguments of the facts' laws, opened: tuples, filters, acts, and how long their texts are. -/
import Derived.Test.YtilcnhdfdgmekaaGreatKFactsNew
import Derived.Test.YtilcnhdfdgmekaaGreatKPlumb
import Derived.Deep.Fields
import Derived.Deep.Slices
import Derived.SizedLaws
namespace Go.Proofs.YtilcnhdfdgmekaaGreat.FactsPlumb
open Go.ChangeShapes Go.WideShapes Go.RowKit Base Plumb TuplePlain TupleRef TupleSpec FactsNew

theorem list_of {α : Type} {p : Nat → α → Prop} : ∀ n : Nat, (∀ i, i < n → ∃ x, p i x) → ∃ l : List α, l.length = n ∧ ∀ i x, l[i]? = some x → p i x
  | 0, _ => ⟨[], rfl, fun i x h => by simp at h⟩
  | n + 1, h => by
    obtain ⟨l, hl, hp⟩ := list_of n fun i hi => h i (by omega)
    obtain ⟨x, hx⟩ := h n (by omega)
    refine ⟨l ++ [x], by simp [hl], fun i y hy => ?_⟩
    rcases Nat.lt_or_ge i l.length with q | q
    · rw [List.getElem?_append_left q] at hy; exact hp i y hy
    · rw [List.getElem?_append_right q] at hy
      rcases Nat.eq_zero_or_pos (i - l.length) with r | r
      · rw [r] at hy; simp at hy; subst hy; rw [show i = n by omega]; exact hx
      · rw [List.getElem?_eq_none (by simp; omega)] at hy; cases hy
theorem add_blk_ (b o j : Nat) : (⟨b, o, none⟩ : Addr).add j = ⟨b, o + j, none⟩ := by simp [Addr.add]
theorem wall {H : Type} {P : Program} {e : TypeId} : ∀ {l : List (DataW H)} {d : DataW H}, d ∈ l → ∀ n ∈ d.weights P e, n ∈ DataW.weightsAll P e l
  | d' :: r, d, hd, n, hn => by
    simp only [DataW.weightsAll, List.mem_append]
    rcases List.mem_cons.1 hd with rfl | h
    · exact Or.inl hn
    · exact Or.inr (wall h n hn)
theorem spot_of {W : World} {a : Addr} {v : Value} (h : W.cell? (a.add 0) = some v) : ∃ b o, a = ⟨b, o, none⟩ := by
  obtain ⟨b, o, sp⟩ := a
  cases sp with
  | none => exact ⟨b, o, rfl⟩
  | some q =>
    exfalso
    simp [World.cell?, Addr.add] at h
    split at h <;> simp_all
theorem first_spot {W : World} {a : Addr} {c : Nat} {cs : List Value} (h : W.cells? 0 (a.add (0 * c)) c = some cs) (hc : 0 < c) : ∃ b o, a = ⟨b, o, none⟩ := by
  obtain ⟨_, hcl, hat⟩ := World.cells?_some h
  have := hat 0 (by omega)
  rw [Go.Deep.add_add, List.getElem?_eq_getElem (by omega)] at this
  exact spot_of (by simpa using this)
section
variable {H : Type} {enc : TypeId × Value → H} {W : World}
set_option maxRecDepth 100000 in
theorem open_t {fuel : Nat} {cs : List Value} {x : DataW H × List MemPlace} (h : DataW.trod enc Tryz.prog W 0 (fun _ => true) true fuel 32 cs = some x) (hw : ∀ n ∈ x.1.weights Tryz.prog 32, n ≤ reachBytes) :
    ∃ t : Tp, cs = (tc t).toList ∧ TpF t := by
  have c9 : Tryz.prog.cellsOf 9 = 1 := by kernel_rfl
  have c23 : Tryz.prog.cellsOf 30 = 3 := by kernel_rfl
  have cT : Tryz.prog.cellsOf 32 = 6 := by kernel_rfl
  obtain ⟨ys, n', _, rfl, hcl, hyl, hg⟩ := DataW.trod_struct Tryz.underlying32 h
  rw [cT] at hcl
  have f0 := hg 0 _ rfl
  have f1 := hg 1 _ rfl
  have f2 := hg 2 _ rfl
  have f3 := hg 3 _ rfl
  match cs, hcl with
  | [v0, v1, v2, v3, v4, v5], _ =>
    match ys, hyl with
    | [y0, y1, y2, y3], _ =>
      simp [c9] at f0 f1 f2
      simp [c23] at f3
      obtain ⟨s0, e0, z0, _⟩ := DataW.trod_string Tryz.underlying9 f0
      obtain ⟨s1, e1, z1, _⟩ := DataW.trod_string Tryz.underlying9 f1
      obtain ⟨s2, e2, z2, _⟩ := DataW.trod_string Tryz.underlying9 f2
      obtain ⟨zs, m', _, z3, _, hzl, hz⟩ := DataW.trod_struct Tryz.underlying30 f3
      have g0 := hz 0 _ rfl
      have g1 := hz 1 _ rfl
      have g2 := hz 2 _ rfl
      match zs, hzl with
      | [q0, q1, q2], _ =>
        simp [c9] at g0 g1 g2
        obtain ⟨s3, e3, z4, _⟩ := DataW.trod_string Tryz.underlying9 g0
        obtain ⟨s4, e4, z5, _⟩ := DataW.trod_string Tryz.underlying9 g1
        obtain ⟨s5, e5, z6, _⟩ := DataW.trod_string Tryz.underlying9 g2
        injection e0 with e0
        injection e1 with e1
        injection e2 with e2
        injection e3 with e3
        injection e4 with e4
        injection e5 with e5
        subst e0 e1 e2 e3 e4 e5
        subst z0 z1 z2 z3 z4 z5 z6
        simp [DataW.weights, DataW.weightsEach, Tryz.underlying32, Tryz.underlying30, reachBytes] at hw
        obtain ⟨h0, h1, h2, h3, h4, h5⟩ := hw
        have hF : TpF ⟨s0, s1, s2, ⟨s3, s4, s5⟩⟩ := by
          unfold TpF UsF
          dsimp only
          refine ⟨?_, ?_, ?_, ?_, ?_, ?_⟩ <;> omega
        exact ⟨_, rfl, hF⟩
set_option maxRecDepth 100000 in
theorem open_t1 {base : Nat} {v : Value} {d : DataW H} {p : List MemPlace} (hv : Value.okWide Tryz.prog W .any base 32 v) (h : DataW.Trod enc Tryz.prog W 0 (fun _ => true) true 32 v d p) (hw : ∀ n ∈ d.weights Tryz.prog 32, n ≤ reachBytes) :
    ∃ t : Tp, v = .agg (tc t) ∧ TpF t := by
  simp only [Value.okWide, Tryz.underlying32] at hv
  obtain ⟨cs, rfl, _, _⟩ := hv
  obtain ⟨fuel, hf⟩ := h
  obtain ⟨t, ht, hF⟩ := open_t hf hw
  simp only [Value.cells] at ht
  exact ⟨t, by rw [show cs = tc t from Array.toList_inj.1 ht], hF⟩
set_option maxRecDepth 100000 in
theorem open_x {fuel : Nat} {cs : List Value} {x : DataW H × List MemPlace} (h : DataW.trod enc Tryz.prog W 0 (fun _ => true) true fuel 43 cs = some x) (hw : ∀ n ∈ x.1.weights Tryz.prog 43, n ≤ reachBytes) :
    ∃ t : Tp, cs = (tc t).toList ∧ TpF t := by
  have c9 : Tryz.prog.cellsOf 9 = 1 := by kernel_rfl
  have c23 : Tryz.prog.cellsOf 30 = 3 := by kernel_rfl
  have cT : Tryz.prog.cellsOf 43 = 6 := by kernel_rfl
  obtain ⟨ys, n', _, rfl, hcl, hyl, hg⟩ := DataW.trod_struct Tryz.underlying43 h
  rw [cT] at hcl
  have f0 := hg 0 _ rfl
  have f1 := hg 1 _ rfl
  have f2 := hg 2 _ rfl
  have f3 := hg 3 _ rfl
  match cs, hcl with
  | [v0, v1, v2, v3, v4, v5], _ =>
    match ys, hyl with
    | [y0, y1, y2, y3], _ =>
      simp [c9] at f0 f1 f2
      simp [c23] at f3
      obtain ⟨s0, e0, z0, _⟩ := DataW.trod_string Tryz.underlying9 f0
      obtain ⟨s1, e1, z1, _⟩ := DataW.trod_string Tryz.underlying9 f1
      obtain ⟨s2, e2, z2, _⟩ := DataW.trod_string Tryz.underlying9 f2
      obtain ⟨zs, m', _, z3, _, hzl, hz⟩ := DataW.trod_struct Tryz.underlying30 f3
      have g0 := hz 0 _ rfl
      have g1 := hz 1 _ rfl
      have g2 := hz 2 _ rfl
      match zs, hzl with
      | [q0, q1, q2], _ =>
        simp [c9] at g0 g1 g2
        obtain ⟨s3, e3, z4, _⟩ := DataW.trod_string Tryz.underlying9 g0
        obtain ⟨s4, e4, z5, _⟩ := DataW.trod_string Tryz.underlying9 g1
        obtain ⟨s5, e5, z6, _⟩ := DataW.trod_string Tryz.underlying9 g2
        injection e0 with e0
        injection e1 with e1
        injection e2 with e2
        injection e3 with e3
        injection e4 with e4
        injection e5 with e5
        subst e0 e1 e2 e3 e4 e5
        subst z0 z1 z2 z3 z4 z5 z6
        simp [DataW.weights, DataW.weightsEach, Tryz.underlying43, Tryz.underlying30, reachBytes] at hw
        obtain ⟨h0, h1, h2, h3, h4, h5⟩ := hw
        have hF : TpF ⟨s0, s1, s2, ⟨s3, s4, s5⟩⟩ := by
          unfold TpF UsF
          dsimp only
          refine ⟨?_, ?_, ?_, ?_, ?_, ?_⟩ <;> omega
        exact ⟨_, rfl, hF⟩
set_option maxRecDepth 100000 in
theorem open_x1 {base : Nat} {v : Value} {d : DataW H} {p : List MemPlace} (hv : Value.okWide Tryz.prog W .any base 43 v) (h : DataW.Trod enc Tryz.prog W 0 (fun _ => true) true 43 v d p) (hw : ∀ n ∈ d.weights Tryz.prog 43, n ≤ reachBytes) :
    ∃ t : Tp, v = .agg (tc t) ∧ TpF t := by
  simp only [Value.okWide, Tryz.underlying43] at hv
  obtain ⟨cs, rfl, _, _⟩ := hv
  obtain ⟨fuel, hf⟩ := h
  obtain ⟨t, ht, hF⟩ := open_x hf hw
  simp only [Value.cells] at ht
  exact ⟨t, by rw [show cs = tc t from Array.toList_inj.1 ht], hF⟩
set_option maxRecDepth 100000 in
set_option maxHeartbeats 1600000 in
/-- a slice of tuples -/
theorem open_ts {v : Value} {d : DataW H} {p : List MemPlace} (h : DataW.Trod enc Tryz.prog W 0 (fun _ => true) true 22 v d p) (hv : ∃ A n c, v = .slice A n c) (hw : ∀ n ∈ d.weights Tryz.prog 22, n ≤ reachBytes) :
    ∃ (A : Option Addr) (c : Nat) (l : List Tp), v = .slice A l.length c ∧ TRow W A l ∧ (∀ t ∈ l, TpF t) ∧ l.length * 96 ≤ reachBytes ∧ l.length ≤ c ∧ c ≤ maxLen := by
  obtain ⟨fuel, hf⟩ := h
  obtain ⟨A0, n0, c0, rfl⟩ := hv
  simp only [Value.cells] at hf
  have hC : Tryz.prog.cellsOf 32 = 6 := by kernel_rfl
  have hB : Tryz.prog.bytesOf 32 = 96 := by kernel_rfl
  rcases Go.Deep.open_slice Tryz.underlying22 hf with ⟨h0, _⟩ | ⟨a, len, cap, m, n, D, Pl, hcs, hb, hl, hm, hmm, hx, hi⟩
  · injection h0 with h0
    exact ⟨none, 0, [], h0, fun i hi => by simp at hi, by simp, by simp, by simp, by simp [maxLen]⟩
  · injection hcs with hcs
    injection hx with hx1 hx2
    subst hx1
    have hml : len ≤ m := by rw [hmm]; split <;> omega
    simp only [DataW.weights, Tryz.underlying22] at hw
    have hwe : ∀ i, i < len → ∀ k ∈ (D i).weights Tryz.prog 32, k ≤ reachBytes := fun i hil k hk =>
      hw k (List.mem_cons_of_mem _ (List.mem_append.2 (.inl (wall (List.mem_map.2 ⟨i, List.mem_range.2 hil, rfl⟩) k hk))))
    have hwl := hw _ (List.mem_cons_self)
    rw [hB] at hwl
    simp only [List.length_map, List.length_range] at hwl
    obtain ⟨xs, hxl, hxs⟩ := list_of (p := fun i (t : Tp) => TpF t ∧ ∃ b o, a = ⟨b, o, none⟩ ∧ b < W.heap.size ∧ ∀ j v, (tc t).toList[j]? = some v → W.cell? ⟨b, o + i * 6 + j, none⟩ = some v) len (fun i hil => by
      obtain ⟨cs', hc, ht⟩ := hi i (by omega)
      rw [hC] at hc
      obtain ⟨_, hcl, hat⟩ := World.cells?_some hc
      obtain ⟨t, rfl, hF⟩ := open_t ht (hwe i hil)
      obtain ⟨cs0, hc0, _⟩ := hi 0 (by omega)
      rw [hC] at hc0
      obtain ⟨b, o, rfl⟩ := first_spot hc0 (by decide)
      have q1 : W.cell? ⟨b, o + (i * 6 + 1), none⟩ = some (.string t.i) := by
        have := hat 1 (by simp)
        rw [Go.Deep.add_add, add_blk_] at this
        rw [this]
        rfl
      have hb := World.block_lt_of_cell? W _ q1
      refine ⟨t, hF, b, o, rfl, hb, fun j v hv => ?_⟩
      have hj := (List.getElem?_eq_some_iff.1 hv).1
      have := hat j hj
      rw [Go.Deep.add_add, add_blk_] at this
      rw [show o + i * 6 + j = o + (i * 6 + j) by omega, this]
      exact hv)
    refine ⟨some a, cap, xs, by rw [hcs, hxl], fun i hi => ?_, fun t ht => ?_, by rw [hxl]; omega, by omega, by omega⟩
    · obtain ⟨h1, b, o, h2, h3, h4⟩ := hxs i _ (List.getElem?_eq_getElem hi)
      exact ⟨b, o, by rw [h2], h3, h4⟩
    · obtain ⟨i, hi, rfl⟩ := List.getElem_of_mem ht
      exact (hxs i _ (List.getElem?_eq_getElem hi)).1
/-- one of the law's acts: its kind, its tuple -/
abbrev actCells (x : Int × Tp) : List Value := .int .i64 x.1 :: (tc x.2).toList
def ARow (w : World) (A : Option Addr) (l : List (Int × Tp)) : Prop :=
  ∀ i (hi : i < l.length), ∃ g o, A = some ⟨g, o, none⟩ ∧ g < w.heap.size ∧ ∀ j v, (actCells l[i])[j]? = some v → w.cell? ⟨g, o + i * 7 + j, none⟩ = some v
theorem ARow.below {w w' : World} {A : Option Addr} {l : List (Int × Tp)} (h : ARow w A l) (hb : Below w.heap.size w w') : ARow w' A l := fun i hi => by
  obtain ⟨g, o, hA, hg, hc⟩ := h i hi
  exact ⟨g, o, hA, Nat.lt_of_lt_of_le hg hb.size, fun j v hv => (World.cell?_of_block (w := w) (hb.block g hg)).trans (hc j v hv)⟩
set_option maxRecDepth 100000 in
set_option maxHeartbeats 1600000 in
/-- a slice of acts -/
theorem open_as {v : Value} {d : DataW H} {p : List MemPlace} (h : DataW.Trod enc Tryz.prog W 0 (fun _ => true) true 23 v d p) (hv : ∃ A n c, v = .slice A n c) (hw : ∀ n ∈ d.weights Tryz.prog 23, n ≤ reachBytes) :
    ∃ (A : Option Addr) (c : Nat) (l : List (Int × Tp)), v = .slice A l.length c ∧ ARow W A l ∧ (∀ x ∈ l, TpF x.2) ∧ l.length ≤ c ∧ c ≤ maxLen := by
  obtain ⟨fuel, hf⟩ := h
  obtain ⟨A0, n0, c0, rfl⟩ := hv
  simp only [Value.cells] at hf
  have hC : Tryz.prog.cellsOf 34 = 7 := by kernel_rfl
  have c3 : Tryz.prog.cellsOf 3 = 1 := by kernel_rfl
  have cT : Tryz.prog.cellsOf 32 = 6 := by kernel_rfl
  rcases Go.Deep.open_slice Tryz.underlying23 hf with ⟨h0, _⟩ | ⟨a, len, cap, m, n, D, Pl, hcs, hb, hl, hm, hmm, hx, hi⟩
  · injection h0 with h0
    exact ⟨none, 0, [], h0, fun i hi => by simp at hi, by simp, by simp, by simp [maxLen]⟩
  · injection hcs with hcs
    injection hx with hx1 hx2
    subst hx1
    have hml : len ≤ m := by rw [hmm]; split <;> omega
    simp only [DataW.weights, Tryz.underlying23] at hw
    have hwe : ∀ i, i < len → ∀ k ∈ (D i).weights Tryz.prog 34, k ≤ reachBytes := fun i hil k hk =>
      hw k (List.mem_cons_of_mem _ (List.mem_append.2 (.inl (wall (List.mem_map.2 ⟨i, List.mem_range.2 hil, rfl⟩) k hk))))
    obtain ⟨xs, hxl, hxs⟩ := list_of (p := fun i (x : Int × Tp) => TpF x.2 ∧ ∃ b o, a = ⟨b, o, none⟩ ∧ b < W.heap.size ∧ ∀ j v, (actCells x)[j]? = some v → W.cell? ⟨b, o + i * 7 + j, none⟩ = some v) len (fun i hil => by
      obtain ⟨cs', hc, ht⟩ := hi i (by omega)
      rw [hC] at hc
      obtain ⟨_, hcl, hat⟩ := World.cells?_some hc
      obtain ⟨ys, n', _, hDi, _, hyl, hg⟩ := DataW.trod_struct Tryz.underlying34 ht
      injection hDi with hD1 hD2
      have f0 := hg 0 _ rfl
      have f1 := hg 1 _ rfl
      match cs', hcl with
      | v0 :: cs1, hcl =>
        match ys, hyl with
        | [y0, y1], _ =>
          simp [c3] at f0
          have hl1 : cs1.length = 6 := by simpa using hcl
          simp [cT] at f1
          rw [List.take_of_length_le (by omega)] at f1
          have hw1 : ∀ k ∈ y1.1.weights Tryz.prog 32, k ≤ reachBytes := fun k hk => hwe i hil k (by
            rw [hD1]
            simp only [DataW.weights, Tryz.underlying34, List.map_cons, List.map_nil, DataW.weightsEach, List.append_nil, List.mem_append]
            exact Or.inr hk)
          obtain ⟨t, rfl, hF⟩ := open_t f1 hw1
          obtain ⟨z0, e0, _, _⟩ := DataW.trod_int Tryz.underlying3 f0
          injection e0 with e0
          subst e0
          obtain ⟨cs0, hc0, _⟩ := hi 0 (by omega)
          rw [hC] at hc0
          obtain ⟨b, o, rfl⟩ := first_spot hc0 (by decide)
          have q1 : W.cell? ⟨b, o + (i * 7 + 1), none⟩ = some (.string t.k) := by
            have := hat 1 (by simp)
            rw [Go.Deep.add_add, add_blk_] at this
            rw [this]
            rfl
          have hb := World.block_lt_of_cell? W _ q1
          refine ⟨(z0, t), hF, b, o, rfl, hb, fun j v hv => ?_⟩
          have hj := (List.getElem?_eq_some_iff.1 hv).1
          have := hat j hj
          rw [Go.Deep.add_add, add_blk_] at this
          rw [show o + i * 7 + j = o + (i * 7 + j) by omega, this]
          exact hv)
    refine ⟨some a, cap, xs, by rw [hcs, hxl], fun i hi => ?_, fun t ht => ?_, by omega, by omega⟩
    · obtain ⟨h1, b, o, h2, h3, h4⟩ := hxs i _ (List.getElem?_eq_getElem hi)
      exact ⟨b, o, by rw [h2], h3, h4⟩
    · obtain ⟨i, hi, rfl⟩ := List.getElem_of_mem ht
      exact (hxs i _ (List.getElem?_eq_getElem hi)).1
/-- what is read weighs no more than may be -/
theorem weight_at {P : Program} {ts : List TypeId} {ds : List (DataW H)} (h : (DataW.weightsEach P ts ds).all (· ≤ reachBytes) = true) {j : Nat} {t : TypeId} {d : DataW H} (ht : ts[j]? = some t) (hd : ds[j]? = some d) : ∀ n ∈ d.weights P t, n ≤ reachBytes := fun n hn => by
  have := List.all_eq_true.1 h _ (DataW.weights_mem_each ht hd n hn)
  simpa using this
end
end Go.Proofs.YtilcnhdfdgmekaaGreat.FactsPlumb
