/- Kinds that are turned, in memory: an own row of kinds, whose rules are turned one by one. -/
import Derived.Test.YtkmnbdomikpakaaDoorKRuleChk
import Derived.Test.YtkmnbdomikpakaaDoorKRuleLines
import Derived.Test.YtkmnbdomikpakaaDoorKRulePlumb
import Derived.Test.YtkmnbdomikpakaaDoorKRuleRow
namespace Go.Proofs.YtkmnbdomikpakaaDoor.RuleTurnM
open Go.RowKit Base KeyPlain TuplePlain TupleRef RulePlain RuleMem RuleRec RulePlumb RuleRow RuleFacts

/-- rules that lie in no cell of block g; their expressions were there before -/
def RK (W w : World) (g : Nat) (rs : List Rl) (K : Option Addr) : Prop := ∃ q : Nat → List Value, ∀ t (ht : t < rs.length), (∃ ad, K = some ad ∧ ad.block ≠ g ∧ Sees w w.heap.size (ad.add (t * 5)) (q t)) ∧ LayR W W.heap.size rs[t] (q t)
theorem RK.later {W w w' : World} {g : Nat} {rs : List Rl} {K : Option Addr} (h : RK W w g rs K) (hb : Below w.heap.size w w') : RK W w' g rs K := by
  obtain ⟨q, hq⟩ := h
  refine ⟨q, fun t ht => ?_⟩
  obtain ⟨⟨ad, h1, h2, h3⟩, h4⟩ := hq t ht
  exact ⟨⟨ad, h1, h2, (h3.below hb).more hb.size⟩, h4⟩
theorem RK.set {W w : World} {g : Nat} {rs : List Rl} {K : Option Addr} (h : RK W w g rs K) (o : Nat) (v : Value) : RK W (w.setCell ⟨g, o, none⟩ v) g rs K := by
  obtain ⟨q, hq⟩ := h
  refine ⟨q, fun t ht => ?_⟩
  obtain ⟨⟨ad, h1, h2, h3⟩, h4⟩ := hq t ht
  refine ⟨⟨ad, h1, h2, ?_, fun j u hu => ?_⟩, h4⟩
  · have : (w.setCell ⟨g, o, none⟩ v).heap.size = w.heap.size := by simp [World.setCell]
    rw [this]
    exact h3.1
  · rw [heap_cell (w := w) (by
      rw [blk_add, blk_add]
      exact Below.heap_setCell _ _ _ _ h2)]
    exact h3.2 j u hu
/-- the row of kinds at block g: those ahead of i have their rules turned -/
def MR (W w : World) (g i : Nat) (ms : List Kd) : Prop := ∃ cur : Array Value, w.heap[g]? = some (.cells cur 42 (0, 0)) ∧ ∀ j (hj : j < ms.length), ∃ K rs c, cur[j * 2]? = some (.string (ms[j]).name) ∧ cur[j * 2 + 1]? = some (.slice K rs.length c) ∧ rs.length ≤ c ∧ rs.length = (ms[j]).rules.length ∧ RK W w g rs K ∧ (if j < i then ∃ a b, (ms[j]).rules = a ++ b ∧ rs = b ++ a else rs = (ms[j]).rules)
theorem MR.later {W w w' : World} {g i : Nat} {ms : List Kd} (h : MR W w g i ms) (hb : Below w.heap.size w w') : MR W w' g i ms := by
  obtain ⟨cur, h1, h2⟩ := h
  refine ⟨cur, (hb.block g (Array.getElem?_eq_some_iff.1 h1).1).trans h1, fun j hj => ?_⟩
  obtain ⟨K, rs, c, a1, a2, a3, a4, a5, a6⟩ := h2 j hj
  exact ⟨K, rs, c, a1, a2, a3, a4, a5.later hb, a6⟩
theorem MR.get {W w : World} {g i : Nat} {ms : List Kd} (h : MR W w g i ms) (hi : i < ms.length) : ∃ K c, w.cell? ⟨g, i * 2 + 1, none⟩ = some (.slice K (ms[i]).rules.length c) ∧ w.frozen? ⟨g, i * 2 + 1, none⟩ = false ∧ (ms[i]).rules.length ≤ c ∧ RK W w g (ms[i]).rules K := by
  obtain ⟨cur, h1, h2⟩ := h
  obtain ⟨K, rs, c, a1, a2, a3, a4, a5, a6⟩ := h2 i hi
  rw [if_neg (by omega)] at a6
  subst a6
  refine ⟨K, c, ?_, ?_, a3, a5⟩
  · simp only [World.cell?, h1]
    exact a2
  · simp [World.frozen?, h1]
theorem MR.skip {W w : World} {g i : Nat} {ms : List Kd} (h : MR W w g i ms) : MR W w g (i + 1) ms := by
  obtain ⟨cur, h1, h2⟩ := h
  refine ⟨cur, h1, fun j hj => ?_⟩
  obtain ⟨K, rs, c, a1, a2, a3, a4, a5, a6⟩ := h2 j hj
  refine ⟨K, rs, c, a1, a2, a3, a4, a5, ?_⟩
  by_cases g1 : j < i
  · rw [if_pos g1] at a6
    rw [if_pos (by omega)]
    exact a6
  · rw [if_neg g1] at a6
    by_cases g2 : j < i + 1
    · rw [if_pos g2]
      exact ⟨rs, [], by rw [a6, List.append_nil], by simp⟩
    · rw [if_neg g2]
      exact a6
theorem MR.set {W w : World} {g i : Nat} {ms : List Kd} (h : MR W w g i ms) (hi : i < ms.length) {K : Option Addr} {c : Nat} {a b : List Rl} (he : (ms[i]).rules = a ++ b) (hc : (ms[i]).rules.length ≤ c) (hr : RK W w g (b ++ a) K) :
    MR W (w.setCell ⟨g, i * 2 + 1, none⟩ (.slice K (ms[i]).rules.length c)) g (i + 1) ms := by
  obtain ⟨cur, h1, h2⟩ := h
  have hlen : (b ++ a).length = (ms[i]).rules.length := by rw [he, List.length_append, List.length_append, Nat.add_comm]
  refine ⟨cur.setIfInBounds (i * 2 + 1) (.slice K (ms[i]).rules.length c), by simp [World.setCell, Array.getElem?_modify, h1], fun j hj => ?_⟩
  obtain ⟨K', rs, c', a1, a2, a3, a4, a5, a6⟩ := h2 j hj
  by_cases g0 : j = i
  · subst g0
    have hb : j * 2 + 1 < cur.size := (Array.getElem?_eq_some_iff.1 a2).1
    refine ⟨K, b ++ a, c, ?_, ?_, by omega, hlen, hr.set _ _, ?_⟩
    · rw [Array.getElem?_setIfInBounds_ne (by omega)]
      exact a1
    · rw [hlen, Array.getElem?_setIfInBounds_self_of_lt hb]
    · rw [if_pos (by omega)]
      exact ⟨a, b, he, rfl⟩
  · refine ⟨K', rs, c', ?_, ?_, a3, a4, a5.set _ _, ?_⟩
    · rw [Array.getElem?_setIfInBounds_ne (by omega)]
      exact a1
    · rw [Array.getElem?_setIfInBounds_ne (by omega)]
      exact a2
    · by_cases g1 : j < i
      · rw [if_pos g1] at a6
        rw [if_pos (by omega)]
        exact a6
      · rw [if_neg g1] at a6
        rw [if_neg (by omega)]
        exact a6
/-- at the end: kinds, alike but for the turning -/
theorem MR.done {W w : World} {g : Nat} {ms : List Kd} (h : MR W w g ms.length ms) (hb : Below W.heap.size W w) (hm : ∀ k, k ∈ ms → k.rules.length ≤ maxLen) : ∃ m, m.length = ms.length ∧ LayL w w.heap.size (some ⟨g, 0, none⟩) m ∧ RuleFacts.Alike ms m := by
  obtain ⟨cur, h1, h2⟩ := h
  have hlt := (Array.getElem?_eq_some_iff.1 h1).1
  obtain ⟨l, hl, hp⟩ := list_of (p := fun j (k : Kd) => ∃ (hj : j < ms.length), k.name = (ms[j]).name ∧ (∃ a b, (ms[j]).rules = a ++ b ∧ k.rules = b ++ a) ∧ ∃ K c, cur[j * 2]? = some (.string (ms[j]).name) ∧ cur[j * 2 + 1]? = some (.slice K k.rules.length c) ∧ RK W w g k.rules K) ms.length fun j hj => by
    obtain ⟨K, rs, c, a1, a2, a3, a4, a5, a6⟩ := h2 j hj
    rw [if_pos hj] at a6
    exact ⟨⟨(ms[j]).name, rs⟩, hj, rfl, a6, K, c, a1, a2, a5⟩
  have hcell : ∀ j v, cur[j]? = some v → w.cell? ((⟨g, 0, none⟩ : Addr).add j) = some v := fun j v hv => by
    have e : (⟨g, 0, none⟩ : Addr).add j = ⟨g, j, none⟩ := by simp [Addr.add]; exact fun h => h.symm
    rw [e]
    simp only [World.cell?, h1]
    exact hv
  have hmem : ∀ j (hj : j < l.length), ∃ K c, (l[j]).rules.length ≤ maxLen ∧ cur[j * 2]? = some (.string (l[j]).name) ∧ cur[j * 2 + 1]? = some (.slice K (l[j]).rules.length c) ∧ RK W w g (l[j]).rules K := fun j hj => by
    obtain ⟨hj', e1, ⟨a, b, e2, e3⟩, K, c, a1, a2, a5⟩ := hp j hj
    refine ⟨K, c, ?_, by rw [e1]; exact a1, a2, a5⟩
    have := hm _ (List.getElem_mem hj')
    rw [e2, List.length_append] at this
    rw [e3, List.length_append]
    omega
  refine ⟨l, hl, ⟨fun j => match l[j]? with | some k => [.string k.name, (cur[j * 2 + 1]?).getD undef] | none => [], fun j hj => ?_⟩, hl.symm, fun j h h' => ?_⟩
  · obtain ⟨K, c, a0, a1, a2, q, hq⟩ := hmem j hj
    simp only [List.getElem?_eq_getElem hj, a2, Option.getD_some]
    refine ⟨⟨_, rfl, by rw [blk_add]; exact hlt, fun i v hv => ?_⟩, K, c, rfl, ⟨q, fun t ht => ?_⟩, a0⟩
    · rw [Go.Deep.add_add]
      match i, hv with
      | 0, hv => exact hcell _ _ (by rw [Nat.add_zero, a1]; exact hv)
      | 1, hv => exact hcell _ _ (by rw [a2]; exact hv)
    · obtain ⟨⟨ad, e1, _, e3⟩, e4⟩ := hq t ht
      exact ⟨⟨ad, e1, e3⟩, e4.imp (see_later hb)⟩
  · obtain ⟨_, e1, e2, _⟩ := hp j h'
    exact ⟨e1.symm, e2⟩
theorem rot_at {α : Type} (l : List α) (k j : Nat) (hk : k ≤ l.length) (hj : j < (l.drop k ++ l.take k).length) : ∃ i, ∃ (hi : i < l.length), (l.drop k ++ l.take k)[j] = l[i] ∧ i = if j < l.length - k then k + j else j - (l.length - k) := by
  have hj' : j < l.length := by simp at hj; omega
  by_cases g : j < l.length - k
  · refine ⟨k + j, by omega, ?_, by rw [if_pos g]⟩
    rw [List.getElem_append_left (by simpa using g), List.getElem_drop]
  · refine ⟨j - (l.length - k), by omega, ?_, by rw [if_neg g]⟩
    rw [List.getElem_append_right (by simpa using g), List.getElem_take]
    congr 1
    simp
/-- append(append([]api.Kind{}, l[k:]...), l[:k]...) -/
theorem turn_kinds {W w : World} {ad : Addr} {l : List Kd} {k c : Nat} (hS : SlOf W W.heap.size 2 (fun k q => LayK W W.heap.size k q ∧ KCap q) (some ad) l) (hb : Below W.heap.size W w) (hk : k < l.length) (hl : l.length ≤ 1000) :
    ∃ A c1 w1 g c' w2, (Builtin.append_ #[23, 23] 23 #[.slice (some ⟨w.heap.size, 0, none⟩) 0 0, .slice (some (ad.add (k * 2))) (l.length - k) (c - k)]).run Tryd.prog (w.alloc (.cells #[] 42)) = .ok (.slice A (l.length - k) c1) w1 ∧
      (Builtin.append_ #[23, 23] 23 #[.slice A (l.length - k) c1, .slice (some ad) k c]).run Tryd.prog w1 = .ok (.slice (some ⟨g, 0, none⟩) l.length c') w2 ∧
      W.heap.size ≤ g ∧ g < w2.heap.size ∧ MR W w2 g 0 (l.drop k ++ l.take k) ∧ Below w.heap.size w w2 := by
  obtain ⟨q, hq⟩ := hS
  have hs : ∀ i, i < l.length → Sees w w.heap.size (ad.add (i * 2)) (q i) ∧ (q i).length = 2 ∧ ∀ u ∈ q i, u.oneCell' = true := fun i hi => by
    obtain ⟨⟨ad', e, h1⟩, ⟨K, c, h2, _⟩, _⟩ := hq i hi
    injection e with e
    subst e
    refine ⟨(h1.below hb).more hb.size, by rw [h2]; rfl, fun u hu => ?_⟩
    rw [h2] at hu
    simp only [List.mem_cons, List.not_mem_nil, or_false] at hu
    rcases hu with rfl | rfl <;> rfl
  have hx : Row w w.heap.size (some (ad.add (k * 2))) ((List.range (l.length - k)).flatMap fun i => q (k + i)) := flat_row (stride := 2) (by omega) fun i hi => by
    have := hs (k + i) (by omega)
    rw [Go.Deep.add_add, ← Nat.add_mul]
    exact ⟨this.1, this.2.1⟩
  have hy : Row w w.heap.size (some ad) ((List.range k).flatMap q) := flat_row (stride := 2) (by omega) fun i hi => ⟨(hs i (by omega)).1, (hs i (by omega)).2.1⟩
  obtain ⟨A, c1, w1, A', c', w2, r1, r2, ho, hb2⟩ := rot_run (P := Tryd.prog) (c1 := c - k) (c2 := c) (n1 := l.length - k) (n2 := k) 23 elem_k (by omega) hx hy (flat_len _ fun i hi => (hs _ (by omega)).2.1) (flat_len _ fun i hi => (hs _ (by omega)).2.1)
    (fun u hu => by obtain ⟨i, hi, hu⟩ := List.mem_flatMap.1 hu; exact (hs (k + i) (by have := List.mem_range.1 hi; omega)).2.2 u hu) (fun u hu => by obtain ⟨i, hi, hu⟩ := List.mem_flatMap.1 hu; exact (hs i (by have := List.mem_range.1 hi; omega)).2.2 u hu) (by simp only [maxLen]; omega) (by omega)
  rw [flat_rot q l.length k (by omega)] at ho
  have e : l.length - k + k = l.length := by omega
  rw [e] at r2 ho
  have hql : ∀ i, i < l.length → ((fun i => if i < l.length - k then q (k + i) else q (i - (l.length - k))) i).length = 2 := fun i hi => by
    dsimp only
    split
    · exact (hs _ (by omega)).2.1
    · exact (hs _ (by omega)).2.1
  obtain ⟨g, cur, rfl, hg, hlt, hgc, hcs, hat, _⟩ := own_sees (by omega) hql ho
  have hWg : W.heap.size ≤ g := Nat.le_trans hb.size hg
  have hW2 : Below W.heap.size W w2 := Below.step hb hb2
  refine ⟨A, c1, w1, g, c', w2, r1, r2, hWg, hlt, ⟨cur, hgc, fun j hj => ?_⟩, hb2⟩
  obtain ⟨i, hi, e1, e2⟩ := rot_at l k j (by omega) hj
  have hj' : j < l.length := by simp at hj; omega
  have hqi : (if j < l.length - k then q (k + j) else q (j - (l.length - k))) = q i := by
    rw [e2]
    split <;> rfl
  have h0 := hat j 0 hj' (by omega)
  have h1 := hat j 1 hj' (by omega)
  rw [hqi] at h0 h1
  obtain ⟨_, ⟨K, c9, h2, h3, h4⟩, h5⟩ := hq i hi
  rw [h2] at h0 h1
  rw [e1]
  refine ⟨K, (l[i]).rules, c9, by simpa using h0, by simpa using h1, h5 K _ c9 (by rw [h2]; rfl), rfl, ?_, by simp⟩
  obtain ⟨q5, hq5⟩ := h3
  refine ⟨q5, fun t ht => ?_⟩
  obtain ⟨⟨ad5, f1, f2⟩, f3⟩ := hq5 t ht
  refine ⟨⟨ad5, f1, ?_, (f2.below hW2).more hW2.size⟩, f3⟩
  have := f2.1
  rw [blk_add] at this
  omega
/-- append(append([]api.Rule{}, r[n:]...), r[:n]...) -/
theorem turn_rules {W w : World} {g n c : Nat} {rs : List Rl} {K : Option Addr} (h : RK W w g rs K) (hg : g < w.heap.size) (hn : n < rs.length) (hl : rs.length ≤ 1000) :
    ∃ ad, K = some ad ∧ ∃ A c1 w1 A' c' w2, (Builtin.append_ #[40, 40] 40 #[.slice (some ⟨w.heap.size, 0, none⟩) 0 0, .slice (some (ad.add (n * 5))) (rs.length - n) (c - n)]).run Tryd.prog (w.alloc (.cells #[] 47)) = .ok (.slice A (rs.length - n) c1) w1 ∧
      (Builtin.append_ #[40, 40] 40 #[.slice A (rs.length - n) c1, .slice (some ad) n c]).run Tryd.prog w1 = .ok (.slice A' rs.length c') w2 ∧ rs.length ≤ c' ∧ RK W w2 g (rs.drop n ++ rs.take n) A' ∧ Below w.heap.size w w2 := by
  obtain ⟨q, hq⟩ := h
  obtain ⟨⟨ad, rfl, _, _⟩, _⟩ := hq n hn
  refine ⟨ad, rfl, ?_⟩
  have hs : ∀ i, i < rs.length → Sees w w.heap.size (ad.add (i * 5)) (q i) ∧ (q i).length = 5 ∧ ∀ u ∈ q i, u.oneCell' = true := fun i hi => by
    obtain ⟨⟨ad', e, _, h1⟩, ⟨qe, h2, h3⟩⟩ := hq i hi
    injection e with e
    subst e
    obtain ⟨A, c, h4, _⟩ := h2.open
    rw [h4] at h3
    refine ⟨h1, by rw [h3]; rfl, fun u hu => ?_⟩
    rw [h3] at hu
    simp only [List.mem_cons, List.not_mem_nil, or_false] at hu
    rcases hu with rfl | rfl | rfl | rfl | rfl <;> rfl
  have hx : Row w w.heap.size (some (ad.add (n * 5))) ((List.range (rs.length - n)).flatMap fun i => q (n + i)) := flat_row (stride := 5) (by omega) fun i hi => by
    have := hs (n + i) (by omega)
    rw [Go.Deep.add_add, ← Nat.add_mul]
    exact ⟨this.1, this.2.1⟩
  have hy : Row w w.heap.size (some ad) ((List.range n).flatMap q) := flat_row (stride := 5) (by omega) fun i hi => ⟨(hs i (by omega)).1, (hs i (by omega)).2.1⟩
  obtain ⟨A, c1, w1, A', c', w2, r1, r2, ho, hb2⟩ := rot_run (P := Tryd.prog) (c1 := c - n) (c2 := c) (n1 := rs.length - n) (n2 := n) 40 elem_r (by omega) hx hy (flat_len _ fun i hi => (hs _ (by omega)).2.1) (flat_len _ fun i hi => (hs _ (by omega)).2.1)
    (fun u hu => by obtain ⟨i, hi, hu⟩ := List.mem_flatMap.1 hu; exact (hs (n + i) (by have := List.mem_range.1 hi; omega)).2.2 u hu) (fun u hu => by obtain ⟨i, hi, hu⟩ := List.mem_flatMap.1 hu; exact (hs i (by have := List.mem_range.1 hi; omega)).2.2 u hu) (by simp only [maxLen]; omega) (by omega)
  rw [flat_rot q rs.length n (by omega)] at ho
  have e : rs.length - n + n = rs.length := by omega
  rw [e] at r2 ho
  have hql : ∀ i, i < rs.length → ((fun i => if i < rs.length - n then q (n + i) else q (i - (rs.length - n))) i).length = 5 := fun i hi => by
    dsimp only
    split
    · exact (hs _ (by omega)).2.1
    · exact (hs _ (by omega)).2.1
  have hcap : rs.length ≤ c' := by
    rcases ho.2 with ⟨_, h1⟩ | ⟨_, cap, _, h1, _, _, h4, _⟩
    · omega
    · injection h1 with _ _ h1
      omega
  obtain ⟨g', cur, rfl, hg', hlt, hgc, hcs, hat, hsee⟩ := own_sees (by omega) hql ho
  refine ⟨A, c1, w1, _, c', w2, r1, r2, hcap, ⟨fun i => if i < rs.length - n then q (n + i) else q (i - (rs.length - n)), fun j hj => ?_⟩, hb2⟩
  obtain ⟨i, hi, e1, e2⟩ := rot_at rs n j (by omega) hj
  have hj' : j < rs.length := by simp at hj; omega
  have hqi : (if j < rs.length - n then q (n + j) else q (j - (rs.length - n))) = q i := by
    rw [e2]
    split <;> rfl
  refine ⟨⟨_, rfl, by show g' ≠ g; omega, hsee j hj'⟩, ?_⟩
  dsimp only
  rw [e1, hqi]
  exact (hq i hi).2
end Go.Proofs.YtkmnbdomikpakaaDoor.RuleTurnM
