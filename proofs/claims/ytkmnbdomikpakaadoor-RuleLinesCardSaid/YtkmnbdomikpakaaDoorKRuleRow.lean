/- Rows of things of several cells each: appended to, read thing by thing. -/
import Derived.Test.YtkmnbdomikpakaaDoorKRuleMem
import Derived.Test.YtkmnbdomikpakaaDoorKRuleRec
import Derived.Deep.Slices
import Derived.Maps.AppendAt
namespace Go.Proofs.YtkmnbdomikpakaaDoor.RuleRow
open Go.RowKit Base KeyPlain TuplePlain TupleRef RulePlain RuleMem RuleRec

def ElemN (P : Program) (t e : TypeId) (size bytes : Nat) : Prop := P.underlying t = some (.slice e) ∧ ∃ i z, P.info? e = some i ∧ i.zero = some z ∧ i.size = size ∧ i.bytes = bytes ∧ z.cells.size = size
section
variable {P : Program} {w : World}
theorem run_append_n {base size bytes : Nat} {t e : TypeId} (ty : TypeId) (hE : ElemN P t e size bytes) (h0 : 0 < size) {A A2 : Option Addr} {c c2 B n m : Nat} {xs news : List Value} (hown : w.ownsRow base e size (.slice A n c) n xs)
    (hr : Row w B A2 news) (hl : news.length = m * size) (h1 : ∀ u ∈ news, u.oneCell' = true) (h63 : n + m ≤ maxLen) (hbytes : (n + m) * bytes ≤ 140737488355328) (hbase : base ≤ w.heap.size) :
    ∃ A' c' w', (Builtin.append_ #[t, t] ty #[.slice A n c, .slice A2 m c2]).run P w = .ok (.slice A' (n + m) c') w' ∧ w'.ownsRow base e size (.slice A' (n + m) c') (n + m) (xs ++ news) ∧ w.grownBy w' (Value.slice A n c).ownBlock ∧
      ((Value.slice A' (n + m) c').ownBlock = (Value.slice A n c).ownBlock ∨ (Value.slice A' (n + m) c').ownBlock = some w.heap.size) := by
  obtain ⟨ht, i, z, hi, hz, hs, hby, hzs⟩ := hE
  cases A2 with
  | none =>
    have hn : news = [] := by
      cases news with
      | nil => rfl
      | cons x l => obtain ⟨ad, e, _⟩ := hr.get 0 (by simp); cases e
    subst hn
    have hm : m = 0 := by
      rcases Nat.eq_zero_or_pos m with g | g
      · exact g
      · have := Nat.mul_pos g h0; simp at hl; omega
    subst hm
    refine ⟨A, c, w, ?_, by simpa using hown, World.grownBy.refl w _, .inl rfl⟩
    rcases hown.2 with ⟨h1, h2⟩ | ⟨g, cap, cur, h1, _, _, hnc, _⟩
    · injection h1 with h3 h4 h5
      subst h3 h4 h5
      simp [Builtin.append_, run_underlying ht, sizeOf, typeInfo, hi, Builtin.lenOf, Builtin.firstCells]
    · injection h1 with h3 h4 h5
      subst h3 h5
      simp [Builtin.append_, run_underlying ht, sizeOf, typeInfo, hi, Builtin.lenOf, Builtin.firstCells, hnc, storeCells]
  | some ad =>
    have hc : ∀ j u, news[j]? = some u → w.cell? (ad.add j) = some u := fun j u hu => by
      obtain ⟨ad', e, _, h⟩ := hr j u hu
      injection e with e
      subst e
      exact h
    obtain ⟨v', w', hrun, h2, h3, _, hloc⟩ := run_append_own_at (P := P) w base t ty e i z size bytes ht hi hz hs hby hzs h0 _ _ xs hown ad m c2 news hl hc h1 h63 hbytes hbase
    have hform : ∃ A' c', v' = .slice A' (n + m) c' := by
      rcases h2.2 with ⟨h4, h5⟩ | ⟨g, cap, cur, h4, _⟩
      · exact ⟨none, 0, by rw [h4, h5]⟩
      · exact ⟨_, _, h4⟩
    obtain ⟨A', c', rfl⟩ := hform
    exact ⟨A', c', w', hrun, h2, h3, hloc⟩
theorem own_below {w w' w0 : World} {B base size : Nat} {e : TypeId} {A : Option Addr} {c n : Nat} {xs : List Value} (h : w.ownsRow base e size (.slice A n c) n xs) (hb : Below B w0 w) (hg : w.grownBy w' (Value.slice A n c).ownBlock) (hB : B ≤ base) (hs : base ≤ w.heap.size) : Below B w0 w' :=
  hb.grown hg (Nat.le_trans hB hs) fun k hk => Nat.le_trans hB (h.lt k hk).1
theorem rot_run {size bytes : Nat} {t e : TypeId} (ty : TypeId) (hE : ElemN P t e size bytes) (h0 : 0 < size) {A1 A2 : Option Addr} {c1 c2 n1 n2 : Nat} {xs ys : List Value} (hx : Row w w.heap.size A1 xs) (hy : Row w w.heap.size A2 ys)
    (lx : xs.length = n1 * size) (ly : ys.length = n2 * size) (ox : ∀ u ∈ xs, u.oneCell' = true) (oy : ∀ u ∈ ys, u.oneCell' = true) (h63 : n1 + n2 ≤ maxLen) (hb : (n1 + n2) * bytes ≤ 140737488355328) :
    ∃ A c w1 A' c' w2, (Builtin.append_ #[t, t] ty #[.slice (some ⟨w.heap.size, 0, none⟩) 0 0, .slice A1 n1 c1]).run P (w.alloc (.cells #[] e)) = .ok (.slice A n1 c) w1 ∧ (Builtin.append_ #[t, t] ty #[.slice A n1 c, .slice A2 n2 c2]).run P w1 = .ok (.slice A' (n1 + n2) c') w2 ∧
      w2.ownsRow w.heap.size e size (.slice A' (n1 + n2) c') (n1 + n2) (xs ++ ys) ∧ Below w.heap.size w w2 := by
  have hal : Below w.heap.size w (w.alloc (.cells #[] e)) := al _ _
  have ho := World.ownsRow_made (base := w.heap.size) (size := size) (e := e) w #[] 0 (Nat.le_refl _) (by simp [maxLen]) (by simp)
  have hb1 : (0 + n1) * bytes ≤ 140737488355328 := Nat.le_trans (Nat.mul_le_mul_right _ (by omega)) hb
  obtain ⟨A, c, w1, r1, o1, g1, _⟩ := run_append_n (P := P) (c2 := c1) (m := n1) ty hE h0 ho (hx.keep fun p hp => hal.cell hp) lx ox (by omega) hb1 (by simp)
  have b1 : Below w.heap.size w w1 := own_below ho hal g1 (Nat.le_refl _) (by simp)
  rw [Nat.zero_add] at r1 o1
  obtain ⟨A', c', w2, r2, o2, g2, _⟩ := run_append_n (P := P) (c2 := c2) (m := n2) ty hE h0 o1 (hy.keep fun p hp => b1.cell hp) ly oy h63 hb b1.size
  rw [List.nil_append] at o2
  exact ⟨A, c, w1, A', c', w2, r1, r2, o2, own_below o1 b1 g2 (Nat.le_refl _) b1.size⟩
end
/-! cells of things in a row -/
theorem flat_len {q : Nat → List Value} {stride : Nat} : ∀ m, (∀ i, i < m → (q i).length = stride) → ((List.range m).flatMap q).length = m * stride
  | 0, _ => by simp
  | m + 1, h => by
    have := flat_len m fun i hi => h i (by omega)
    rw [List.range_succ, List.flatMap_append, List.length_append, this]
    simp [h m (by omega), Nat.add_mul]
theorem flat_at {q : Nat → List Value} {stride : Nat} : ∀ m, (∀ i, i < m → (q i).length = stride) → ∀ i j, i < m → j < stride → ((List.range m).flatMap q)[i * stride + j]? = (q i)[j]?
  | 0, _, i, _, hi, _ => by omega
  | m + 1, h, i, j, hi, hj => by
    have hl := flat_len m fun i hi => h i (by omega)
    rw [List.range_succ, List.flatMap_append]
    rcases Nat.lt_or_ge i m with g | g
    · have : i * stride + j < m * stride := by
        have : (i + 1) * stride ≤ m * stride := Nat.mul_le_mul_right _ g
        rw [Nat.add_mul] at this
        omega
      rw [List.getElem?_append_left (by omega)]
      exact flat_at m (fun i hi => h i (by omega)) i j g hj
    · obtain rfl : i = m := by omega
      rw [List.getElem?_append_right (by omega), hl]
      simp
theorem flat_row {w : World} {B stride : Nat} {a : Addr} {q : Nat → List Value} {m : Nat} (h0 : 0 < stride) (h : ∀ i, i < m → Sees w B (a.add (i * stride)) (q i) ∧ (q i).length = stride) : Row w B (some a) ((List.range m).flatMap q) := fun k v hv => by
  have hl := flat_len m fun i hi => (h i hi).2
  have hk : k < m * stride := by
    rw [← hl]
    exact (List.getElem?_eq_some_iff.1 hv).1
  have hi : k / stride < m := (Nat.div_lt_iff_lt_mul h0).2 hk
  have hj : k % stride < stride := Nat.mod_lt _ h0
  have he : k / stride * stride + k % stride = k := by rw [Nat.mul_comm]; exact Nat.div_add_mod k stride
  have hs := (h _ hi).1
  rw [← he, flat_at m (fun i hi => (h i hi).2) _ _ hi hj] at hv
  refine ⟨a, rfl, ?_, ?_⟩
  · have := hs.1
    rwa [blk_add] at this
  · have := hs.2 _ _ hv
    rwa [Go.Deep.add_add, he] at this
/-- turned: what lies behind k ahead -/
theorem flat_rot (q : Nat → List Value) (n k : Nat) (_ : k ≤ n) : ((List.range (n - k)).flatMap fun i => q (k + i)) ++ (List.range k).flatMap q = (List.range (n - k + k)).flatMap fun i => if i < n - k then q (k + i) else q (i - (n - k)) := by
  rw [List.range_add, List.flatMap_append]
  congr 1
  · rw [List.flatMap_def, List.flatMap_def]
    congr 1
    refine List.map_congr_left fun i hi => ?_
    rw [if_pos (List.mem_range.1 hi)]
  · rw [List.flatMap_def, List.flatMap_def, List.map_map]
    congr 1
    refine List.map_congr_left fun i _ => ?_
    simp only [Function.comp_apply]
    rw [if_neg (by omega), Nat.add_sub_cancel_left]
theorem elem_k : ElemN Tryd.prog 23 42 2 40 := by
  obtain ⟨i, h1, h2, h3, h4⟩ := info_parts (show (Tryd.prog.info? 42).map (fun i => (i.zero, i.size, i.bytes)) = some (some (.agg #[.string ⟨#[]⟩, .slice none 0 0]), 2, 40) from by kernel_rfl)
  exact ⟨Tryd.underlying23, i, _, h1, h2, h3, h4, rfl⟩
theorem elem_r : ElemN Tryd.prog 40 47 5 88 := by
  obtain ⟨i, h1, h2, h3, h4⟩ := info_parts (show (Tryd.prog.info? 47).map (fun i => (i.zero, i.size, i.bytes)) = some (some (.agg #[.string ⟨#[]⟩, .string ⟨#[]⟩, .string ⟨#[]⟩, .string ⟨#[]⟩, .slice none 0 0]), 5, 88) from by kernel_rfl)
  exact ⟨Tryd.underlying40, i, _, h1, h2, h3, h4, rfl⟩
theorem heap_cell {w w' : World} {p : Addr} (h : w'.heap[p.block]? = w.heap[p.block]?) : w'.cell? p = w.cell? p := by simp only [World.cell?, h]
/-- an own row, thing by thing -/
theorem own_sees {w : World} {base size m c : Nat} {e : TypeId} {A : Option Addr} {q : Nat → List Value} (hm : 0 < m) (hq : ∀ i, i < m → (q i).length = size) (h : w.ownsRow base e size (.slice A m c) m ((List.range m).flatMap q)) :
    ∃ g cur, A = some ⟨g, 0, none⟩ ∧ base ≤ g ∧ g < w.heap.size ∧ w.heap[g]? = some (.cells cur e (0, 0)) ∧ m * size ≤ cur.size ∧ (∀ i j, i < m → j < size → cur[i * size + j]? = (q i)[j]?) ∧ ∀ i, i < m → Sees w w.heap.size ((⟨g, 0, none⟩ : Addr).add (i * size)) (q i) := by
  rcases h.2 with ⟨_, h1⟩ | ⟨g, cap, cur, h1, h2, h3, h4, h5, h6, h7⟩
  · omega
  · injection h1 with h8 h9 h10
    subst h8 h10
    have hlt := (Array.getElem?_eq_some_iff.1 h3).1
    have hle : m * size ≤ cur.size := by rw [h6]; exact Nat.mul_le_mul_right _ h4
    have hat : ∀ i j, i < m → j < size → cur[i * size + j]? = (q i)[j]? := fun i j hi hj => by
      have h8 := flat_at m hq i j hi hj
      rw [← h7, List.getElem?_take, if_pos (by
        have : (i + 1) * size ≤ m * size := Nat.mul_le_mul_right _ hi
        rw [Nat.add_mul] at this
        omega)] at h8
      rw [← h8, Array.getElem?_toList]
    refine ⟨g, cur, rfl, h2, hlt, h3, hle, hat, fun i hi => ⟨by rw [blk_add]; exact hlt, fun j u hu => ?_⟩⟩
    have hj : j < size := by rw [← hq i hi]; exact (List.getElem?_eq_some_iff.1 hu).1
    have hc := h.cells (g := g) rfl (i * size + j) u (by rw [flat_at m hq i j hi hj]; exact hu)
    rw [Go.Deep.add_add]
    exact hc
theorem elem_e : ElemN Tryd.prog 32 34 4 72 := by
  obtain ⟨i, h1, h2, h3, h4⟩ := info_parts (show (Tryd.prog.info? 34).map (fun i => (i.zero, i.size, i.bytes)) = some (some (.agg #[.string ⟨#[]⟩, .string ⟨#[]⟩, .string ⟨#[]⟩, .slice none 0 0]), 4, 72) from by kernel_rfl)
  exact ⟨Tryd.underlying32, i, _, h1, h2, h3, h4, rfl⟩
theorem wpList_append_run {P : Program} {w : World} {ops : Array Oper} {rest : List Oper} {o : Oper} {a : Act} {Q : Exit → Act → World → Prop} (hgd : o.guard = none) (s x : Operand) (t u : TypeId)
    (hop : o.op = Op.call { callee := Callee.builtin Builtin.append, args := #[s, x], argTypes := #[t, u] }) {vs vx v : Value} {w' : World} (hs : a.eval s = vs) (hx : a.eval x = vx)
    (hrun : (Builtin.append_ #[t, u] o.type #[vs, vx]).run P w = .ok v w') (h : wpList P ops Q rest (a.put o.dst v) w') : wpList P ops Q (o :: rest) a w := by
  refine wpList_plain hgd fun K hK => ?_
  unfold Oper.wp
  simp [execOp, hop, resolve, invoke, builtin, hs, hx, hrun, Result.andThen]
  exact hK _ _ h
/-! an expression's cells, whatever is said of the rows of parts -/
inductive LayF (S : Addr → List Value → Prop) : Ex → List Value → Prop
  | mk (op nm fo : ByteArray) (ps : List Ex) (A : Option Addr) (c : Nat) (q : Nat → List Value) (hl : ps.length ≤ maxLen)
      (h1 : ∀ i, i < ps.length → ∃ ad, A = some ad ∧ S (ad.add (i * 4)) (q i)) (h2 : ∀ i (hi : i < ps.length), LayF S (ps[i]) (q i)) :
      LayF S (.mk op nm fo ps) [.string op, .string nm, .string fo, .slice A ps.length c]
theorem LayF.imp {S S' : Addr → List Value → Prop} {e : Ex} {q : List Value} (h : LayF S e q) (hs : ∀ a vs, S a vs → S' a vs) : LayF S' e q := by
  induction h with
  | mk op nm fo ps A c q hl h1 h2 ih => exact .mk op nm fo ps A c q hl (fun i hi => by obtain ⟨ad, hA, h⟩ := h1 i hi; exact ⟨ad, hA, hs _ _ h⟩) ih
theorem LayF.lay {w : World} {B : Nat} {e : Ex} {q : List Value} (h : LayF (Sees w B) e q) : Lay w B e q := by
  induction h with
  | mk op nm fo ps A c q hl h1 h2 ih => exact .mk op nm fo ps A c q hl h1 ih
theorem LayF.len {S : Addr → List Value → Prop} {e : Ex} {q : List Value} (h : LayF S e q) : q.length = 4 := by
  cases h; rfl
theorem LayF.one {S : Addr → List Value → Prop} {e : Ex} {q : List Value} (h : LayF S e q) : ∀ u ∈ q, u.oneCell' = true := by
  cases h
  intro u hu
  simp only [List.mem_cons, List.not_mem_nil, or_false] at hu
  rcases hu with rfl | rfl | rfl | rfl <;> rfl
/-- rows that lie in blocks from lo on, and not in g -/
def St (lo : Nat) (g : Option Nat) (w : World) (a : Addr) (vs : List Value) : Prop := lo ≤ a.block ∧ g ≠ some a.block ∧ Sees w w.heap.size a vs
end Go.Proofs.YtkmnbdomikpakaaDoor.RuleRow
