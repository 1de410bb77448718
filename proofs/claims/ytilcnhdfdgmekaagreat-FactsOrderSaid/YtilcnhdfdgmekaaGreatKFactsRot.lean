/- Slices of tuples cut and put together. -/
import Derived.Test.YtilcnhdfdgmekaaGreatKFactsLawP
namespace Go.Proofs.YtilcnhdfdgmekaaGreat.FactsRot
open Go.RowKit Base KeyPlain TuplePlain TupleRef TupleSpec TupleCut FMap FactsPlain FactsMem FactsHas FactsPut FactsDrop FactsNew FactsFind FactsLess FactsObj FactsUsersOf FactsNames FactsOrder FactsRefS FactsFew FactsIs FactsAwake TurnB RowN FactsLawP

theorem step_append_run {P : Program} {w : World} {ops : Array Oper} {o : Oper} {a : Act} {K : Act → World → Prop} {Q : Exit → Act → World → Prop} {E : Prop} (hg : o.guard = none) (s x : Operand) (t u : TypeId)
    (hop : o.op = Op.call { callee := Callee.builtin Builtin.append, args := #[s, x], argTypes := #[t, u] }) {vs vx v : Value} {w' : World} (hs : a.eval s = vs) (hx : a.eval x = vx)
    (hrun : (Builtin.append_ #[t, u] o.type #[vs, vx]).run P w = .ok v w') (hK : K (a.put o.dst v) w') : if Region.wanted o (yielded ops a.tmps) = true then Oper.wp P o a w K Q else E := by
  have hw : Region.wanted o (yielded ops a.tmps) = true := by simp [Region.wanted, hg]
  rw [if_pos hw]
  unfold Oper.wp
  simp [execOp, hop, resolve, invoke, builtin, hs, hx, hrun, Result.andThen]
  exact hK
theorem step_append_d {P : Program} {w : World} {ops : Array Oper} {o : Oper} {a : Act} {K : Act → World → Prop} {Q : Exit → Act → World → Prop} {E : Prop} {d : Tmp} (hg : o.guard = none) (hd : o.dst = some d) (s x : Operand) (t u : TypeId)
    (hop : o.op = Op.call { callee := Callee.builtin Builtin.append, args := #[s, x], argTypes := #[t, u] }) {vs vx v : Value} {w' : World} (hs : a.eval s = vs) (hx : a.eval x = vx)
    (hrun : (Builtin.append_ #[t, u] o.type #[vs, vx]).run P w = .ok v w') (hK : K (a.put (some d) v) w') : if Region.wanted o (yielded ops a.tmps) = true then Oper.wp P o a w K Q else E :=
  step_append_run hg s x t u hop hs hx hrun (by rw [hd]; exact hK)
theorem wrap_ok (z : Int) (h0 : 0 ≤ z) (h1 : z ≤ 1000000) : wrap64 z = z := by simp only [wrap64]; omega
theorem slice_lt (g o n c k : Nat) (hk : k < n) (hc : n ≤ c) (w : World) : (Instr.slice 22 (.slice (some ⟨g, o, none⟩) n c) (some (.int .i64 (k : Int))) none none).run Tryz.prog w = .ok (.slice (some ⟨g, o + k * 6, none⟩) (n - k) (c - k)) w := by
  rw [run_slice_l w 22 (some ⟨g, o, none⟩) n c under_t .i64 (k : Int) (by omega) (by omega), size_t]
  have h1 : ¬ c = k := by omega
  have h2 : (⟨g, o, none⟩ : Addr).add (k * 6) = ⟨g, o + k * 6, none⟩ := by simp [Addr.add]
  simp [sliced, Result.andThen, h1, h2]
theorem slice_ht (g o n c k : Nat) (hk : k ≤ c) (w : World) : (Instr.slice 22 (.slice (some ⟨g, o, none⟩) n c) none (some (.int .i64 (k : Int))) none).run Tryz.prog w = .ok (.slice (some ⟨g, o, none⟩) k c) w := by
  rw [run_slice_h w 22 (some ⟨g, o, none⟩) n c under_t .i64 (k : Int) (by omega) (by omega), size_t]
  simp [sliced, Result.andThen, Addr.add]
theorem trow_drop {w : World} {g o : Nat} {l : List Tp} (h : TRow w (some ⟨g, o, none⟩) l) (k : Nat) : TRow w (some ⟨g, o + k * 6, none⟩) (l.drop k) := fun i hi => by
  rw [List.length_drop] at hi
  obtain ⟨g', o', hA, hg, hc⟩ := h (k + i) (by omega)
  injection hA with hA
  injection hA with h1 h2
  subst h1 h2
  refine ⟨g, o + k * 6, rfl, hg, fun j v hv => ?_⟩
  rw [List.getElem_drop] at hv
  have := hc j v hv
  rw [show o + (k + i) * 6 + j = o + k * 6 + i * 6 + j by omega] at this
  exact this
theorem flat_n (l : List Tp) : (l.flatMap encT).length = l.length * 6 := by
  rw [List.length_flatMap]
  induction l with
  | nil => rfl
  | cons t l ih => simp only [List.map_cons, List.sum_cons, ih, List.length_cons]; rw [show (encT t).length = 6 from rfl]; omega
theorem flat_one (l : List Tp) : ∀ u ∈ l.flatMap encT, u.oneCell' = true := fun u hu => by
  obtain ⟨t, _, hu⟩ := List.mem_flatMap.1 hu
  simp [encT, tc] at hu
  rcases hu with rfl | rfl | rfl | rfl | rfl | rfl <;> rfl
/-- append(append([]api.Tuple{}, l[k:]...), l[:k]...) -/
theorem run_rot {w : World} {g o n c k : Nat} {l : List Tp} (hn : n = l.length) (hr : TRow w (some ⟨g, o, none⟩) l) (hk : k < n) (hz : n ≤ 1000) (ty : TypeId) :
    ∃ A1 c1 w1 A2 c2 w2, (Builtin.append_ #[22, 22] ty #[.slice (some ⟨w.heap.size, 0, none⟩) 0 0, .slice (some ⟨g, o + k * 6, none⟩) (n - k) (c - k)]).run Tryz.prog (w.alloc (.cells #[] 32)) = .ok (.slice A1 (n - k) c1) w1 ∧
      (Builtin.append_ #[22, 22] ty #[.slice A1 (n - k) c1, .slice (some ⟨g, o, none⟩) k c]).run Tryz.prog w1 = .ok (.slice A2 n c2) w2 ∧
      w2.ownsRow w.heap.size 32 6 (.slice A2 n c2) n ((l.drop k ++ l.take k).flatMap encT) ∧ Below w.heap.size w w2 := by
  have hb := al w (.cells #[] 32)
  have ho := own_new w
  obtain ⟨A1, c1, w1, r1, o1, g1, _⟩ := run_append_n (c2 := c - k) (m := n - k) ty elem_t (by decide) ho (row_flat ((trow_drop hr k).below hb)) (by rw [flat_n, List.length_drop, hn]) (flat_one _) (by unfold maxLen; omega) (by omega) (by simp)
  rw [Nat.zero_add] at r1 o1
  have b1 : Below w.heap.size w w1 := hb.grown g1 hb.size fun j hj => (ho.lt j hj).1
  obtain ⟨A2, c2, w2, r2, o2, g2, _⟩ := run_append_n (c2 := c) (m := k) ty elem_t (by decide) o1 (row_flat (trow_take (hr.below b1) k)) (by rw [flat_n, List.length_take, ← hn, Nat.min_eq_left (by omega)]) (flat_one _) (by unfold maxLen; omega) (by omega) b1.size
  rw [show n - k + k = n by omega] at r2 o2
  rw [List.nil_append, ← List.flatMap_append] at o2
  exact ⟨A1, c1, w1, A2, c2, w2, r1, r2, o2, b1.grown g2 b1.size fun j hj => (o1.lt j hj).1⟩
/-- .. and append(.., l...) -/
theorem run_more {w w0 : World} {A A2 : Option Addr} {n m c c2 : Nat} {l q : List Tp} {base : Nat} (hq : m = q.length) (hn : n = l.length) (hr : TRow w A l) (ho : w.ownsRow base 32 6 (.slice A2 m c2) m (q.flatMap encT)) (hz : m + n ≤ 1000) (hb : Below base w0 w) (hB : base ≤ w.heap.size) (ty : TypeId) :
    ∃ A3 c3 w3, (Builtin.append_ #[22, 22] ty #[.slice A2 m c2, .slice A n c]).run Tryz.prog w = .ok (.slice A3 (m + n) c3) w3 ∧ TRow w3 A3 (q ++ l) ∧ Below base w0 w3 := by
  obtain ⟨A3, c3, w3, r3, o3, g3, _⟩ := run_append_n (c2 := c) (m := n) ty elem_t (by decide) ho (row_flat hr) (by rw [flat_n, hn]) (flat_one _) (by unfold maxLen; omega) (by omega) hB
  rw [← List.flatMap_append] at o3
  exact ⟨A3, c3, w3, r3, trow_own (by rw [List.length_append]; omega) o3, hb.grown g3 (Nat.le_trans (Nat.le_refl _) (by exact (hb.size |> fun h => (by first | exact h | exact Nat.le_trans hB (Nat.le_refl _))))) fun j hj => (ho.lt j hj).1⟩
end Go.Proofs.YtilcnhdfdgmekaaGreat.FactsRot
