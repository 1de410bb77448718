/- FMap, TurnB. -/
import Derived.Test.YtilcnhdfdgmekaaGreatKReg
import Derived.Maps.Keyed
import Derived.Maps.OwnSet
import Derived.Maps.RangeRun
namespace Go.Proofs.YtilcnhdfdgmekaaGreat.FMap
open Go.RowKit Base
open Go.ChangeMaps (setBlock)
open Go.Maps (Keyed)

def kv (e : MapEntry) : Value × Value := (e.key, e.val)
theorem er_map {α β : Type} (f : α → β) : ∀ (l : List α) (j : Nat), (l.eraseIdx j).map f = (l.map f).eraseIdx j
  | [], _ => rfl
  | _ :: _, 0 => rfl
  | x :: l, j + 1 => by simp [er_map f l j]
def IsKey (P : Program) (k : TypeId) (v : Value) : Prop := ∃ x, keyOf P k v = some x
/-- block b is a map: its keys and values, each key once -/
structure Mp (P : Program) (k : TypeId) (w : World) (b : Nat) (l : List (Value × Value)) : Prop where
  ex : ∃ es clock, w.heap[b]? = some (.map es clock) ∧ es.toList.map kv = l ∧ (∀ e ∈ es.toList, e.born < clock) ∧ (es.toList.map (·.born)).Nodup
  keys : ∀ p ∈ l, IsKey P k p.1
  once : (l.map (·.1)).Nodup
section
variable {P : Program} {k t e : TypeId} {w w' : World} {b : Nat} {l : List (Value × Value)}
theorem Mp.lt (h : Mp P k w b l) : b < w.heap.size := by
  obtain ⟨es, clock, hb, _⟩ := h.ex
  exact (Array.getElem?_eq_some_iff.1 hb).1
theorem Mp.same (h : Mp P k w b l) (hb : w'.heap[b]? = w.heap[b]?) : Mp P k w' b l := by
  obtain ⟨es, clock, h1, h2, h3, h4⟩ := h.ex
  exact ⟨⟨es, clock, hb.trans h1, h2, h3, h4⟩, h.keys, h.once⟩
theorem Mp.below {B : Nat} (h : Mp P k w b l) (hb : Below B w w') (hB : b < B) : Mp P k w' b l := h.same (hb.block b hB)
theorem Mp.made (w : World) : Mp P k (w.alloc (.map #[] 0)) w.heap.size [] :=
  ⟨⟨#[], 0, heap_alloc_new w _, rfl, by simp, by simp⟩, by simp, by simp⟩
theorem eq_of_key : ∀ {l : List (Value × Value)}, (l.map (·.1)).Nodup → ∀ {x v v' : Value}, (x, v) ∈ l → (x, v') ∈ l → v = v'
  | [], _, _, _, _, h, _ => by simp at h
  | p :: l, h, x, v, v', h1, h2 => by
    rw [List.map_cons, List.nodup_cons] at h
    rcases List.mem_cons.1 h1 with e1 | h1 <;> rcases List.mem_cons.1 h2 with e2 | h2
    · rw [← e2] at e1
      exact (Prod.mk.inj e1).2
    · exact absurd (List.mem_map.2 ⟨_, h2, by rw [← e1]⟩) h.1
    · exact absurd (List.mem_map.2 ⟨_, h1, by rw [← e2]⟩) h.1
    · exact eq_of_key h.2 h1 h2
theorem find_at (K : Keyed P k) {es : Array MapEntry} (hk : ∀ p ∈ es.toList.map kv, IsKey P k p.1) {x : Value} (hx : IsKey P k x) (w : World) :
    ((Instr.findKey k x es.toList).run P w = .ok none w ∧ x ∉ (es.toList.map kv).map (·.1)) ∨ ∃ (j : Nat) (v : Value), (Instr.findKey k x es.toList).run P w = .ok (some (j, v)) w ∧ (es.toList.map kv)[j]? = some (x, v) := by
  obtain ⟨lx, hlx⟩ := hx
  rcases K.find w hlx es.toList (fun e he => hk (kv e) (List.mem_map.2 ⟨e, he, rfl⟩)) with ⟨h1, h2⟩ | ⟨j, e0, h1, h2, h3⟩
  · refine Or.inl ⟨h1, fun hm => ?_⟩
    obtain ⟨p, hp, rfl⟩ := List.mem_map.1 hm
    obtain ⟨e, he, rfl⟩ := List.mem_map.1 hp
    exact h2 e he rfl
  · exact Or.inr ⟨j, e0.val, h1, by rw [List.getElem?_map, h2]; simp [kv, h3]⟩
/-- m[x], x there -/
theorem Mp.look (h : Mp P k w b l) (K : Keyed P k) (ht : P.underlying t = some (.map k e)) {x v : Value} (hm : (x, v) ∈ l) (c : Bool) :
    (Instr.lookup t (.map (some b)) x c).run P w = .ok (if c then .tuple #[v, .bool true] else v) w := by
  obtain ⟨es, clock, hb, rfl, _, _⟩ := h.ex
  have hx := h.keys _ hm
  obtain ⟨lx, hlx⟩ := hx
  rcases find_at K h.keys ⟨lx, hlx⟩ w with ⟨_, h2⟩ | ⟨j, v', h1, h2⟩
  · exact absurd (List.mem_map.2 ⟨_, hm, rfl⟩) h2
  · have hv : v' = v := eq_of_key h.once (List.mem_of_getElem? h2) hm
    subst hv
    simp [Instr.lookup, run_underlying ht, MapKept.run_getObj_map hb, K.check w _ hlx, h1, Result.andThen]
/-- m[x], x not there -/
theorem Mp.miss (h : Mp P k w b l) (K : Keyed P k) (ht : P.underlying t = some (.map k e)) {z : Value} (hz : (zeroValue e).run P w = .ok z w) {x : Value} (hx : IsKey P k x) (hm : x ∉ l.map (·.1)) (c : Bool) :
    (Instr.lookup t (.map (some b)) x c).run P w = .ok (if c then .tuple #[z, .bool false] else z) w := by
  obtain ⟨es, clock, hb, rfl, _, _⟩ := h.ex
  obtain ⟨lx, hlx⟩ := hx
  rcases find_at K h.keys ⟨lx, hlx⟩ w with ⟨h1, _⟩ | ⟨j, v', h1, h2⟩
  · simp [Instr.lookup, run_underlying ht, MapKept.run_getObj_map hb, K.check w _ hlx, h1, hz, Result.andThen]
  · exact absurd (List.mem_map.2 ⟨_, List.mem_of_getElem? h2, rfl⟩) hm
theorem look_nil (K : Keyed P k) (ht : P.underlying t = some (.map k e)) {z : Value} (hz : (zeroValue e).run P w = .ok z w) {x : Value} (hx : IsKey P k x) (c : Bool) :
    (Instr.lookup t (.map none) x c).run P w = .ok (if c then .tuple #[z, .bool false] else z) w := by
  obtain ⟨lx, hlx⟩ := hx
  have h1 := K.find w hlx [] (by simp)
  rcases h1 with ⟨h1, _⟩ | ⟨j, e0, _, h2, _⟩
  · simp [Instr.lookup, run_underlying ht, K.check w _ hlx, h1, hz, Result.andThen]
  · simp at h2
theorem set_same {b : Nat} {o o' : Obj} (hb : w.heap[b]? = some o) : (setBlock w b o').heap[b]? = some o' := by
  have := (Array.getElem?_eq_some_iff.1 hb).1
  simp [setBlock, this]
theorem set_only (w : World) (b : Nat) (o : Obj) : w.grownBy (setBlock w b o) (some b) :=
  ⟨rfl, rfl, rfl, by simp [setBlock], fun i _ hne => by simp only [setBlock]; exact Array.getElem?_setIfInBounds_ne (fun e => hne (by rw [e]))⟩
/-- m[x] = v, x not there -/
theorem Mp.add (h : Mp P k w b l) (K : Keyed P k) (ht : P.underlying t = some (.map k e)) {x v : Value} (hx : IsKey P k x) (hm : x ∉ l.map (·.1)) :
    ∃ o, (Instr.mapUpdate t (.map (some b)) x v).run P w = .ok () (setBlock w b o) ∧ Mp P k (setBlock w b o) b (l ++ [(x, v)]) := by
  obtain ⟨es, clock, hb, rfl, h3, h4⟩ := h.ex
  obtain ⟨lx, hlx⟩ := hx
  rcases find_at K h.keys ⟨lx, hlx⟩ w with ⟨h1, _⟩ | ⟨j, v', h1, h2⟩
  · refine ⟨.map (es.push ⟨x, v, clock⟩) (clock + 1), ?_, ⟨⟨_, _, set_same hb, by simp [kv], ?_, ?_⟩, ?_, ?_⟩⟩
    · simp [Instr.mapUpdate, run_underlying ht, MapKept.run_getObj_map hb, K.check w false hlx, h1, MapKept.run_setObj_map _ hb, Result.andThen, setBlock]
    · intro q hq
      simp only [Array.toList_push, List.mem_append, List.mem_singleton] at hq
      rcases hq with hq | rfl
      · have := h3 q hq; omega
      · exact Nat.lt_succ_self _
    · simp only [Array.toList_push, List.map_append, List.map_cons, List.map_nil]
      rw [List.nodup_append]
      refine ⟨h4, by simp, ?_⟩
      intro p hp q hq
      obtain ⟨y, hy, rfl⟩ := List.mem_map.1 hp
      simp only [List.mem_singleton] at hq
      subst hq
      exact Nat.ne_of_lt (h3 y hy)
    · intro p hp
      rcases List.mem_append.1 hp with hp | hp
      · exact h.keys p hp
      · simp only [List.mem_singleton] at hp
        subst hp
        exact ⟨lx, hlx⟩
    · rw [List.map_append, List.nodup_append]
      refine ⟨h.once, by simp, ?_⟩
      intro p hp q hq
      simp only [List.map_cons, List.map_nil, List.mem_singleton] at hq
      subst hq
      rintro rfl
      exact hm hp
  · exact absurd (List.mem_map.2 ⟨_, List.mem_of_getElem? h2, rfl⟩) hm
/-- m[x] = v, v there already -/
theorem Mp.again (h : Mp P k w b l) (K : Keyed P k) (ht : P.underlying t = some (.map k e)) {x v : Value} (hm : (x, v) ∈ l) :
    ∃ o, (Instr.mapUpdate t (.map (some b)) x v).run P w = .ok () (setBlock w b o) ∧ Mp P k (setBlock w b o) b l := by
  obtain ⟨es, clock, hb, rfl, h3, h4⟩ := h.ex
  obtain ⟨lx, hlx⟩ := h.keys _ hm
  rcases find_at K h.keys ⟨lx, hlx⟩ w with ⟨_, h2⟩ | ⟨j, v', h1, h2⟩
  · exact absurd (List.mem_map.2 ⟨_, hm, rfl⟩) h2
  · have hv : v' = v := eq_of_key h.once (List.mem_of_getElem? h2) hm
    subst hv
    rw [List.getElem?_map] at h2
    obtain ⟨e0, he0, hk0⟩ := Option.map_eq_some_iff.1 h2
    have hk1 : e0.key = x ∧ e0.val = v' := ⟨congrArg Prod.fst hk0, congrArg Prod.snd hk0⟩
    have hj : es[j]? = some e0 := by simpa using he0
    have hlist : (es.modify j (fun e' => { e' with key := x, val := v' })).toList = es.toList := by
      rw [Array.toList_modify]
      apply List.ext_getElem?
      intro i
      rw [List.getElem?_modify]
      by_cases hij : j = i
      · subst hij
        rw [he0]
        cases e0
        simp only at hk1
        obtain ⟨rfl, rfl⟩ := hk1
        simp
      · simp [hij]
    refine ⟨.map (es.modify j (fun e' => { e' with key := x, val := v' })) clock, ?_, ⟨⟨_, _, set_same hb, by rw [hlist], by rw [hlist]; exact h3, by rw [hlist]; exact h4⟩, h.keys, h.once⟩⟩
    simp [Instr.mapUpdate, run_underlying ht, MapKept.run_getObj_map hb, K.check w false hlx, h1, hj, hk1.1, K.stays w hlx, MapKept.run_setObj_map _ hb, Result.andThen, setBlock]
/-- delete(m, x), x there -/
theorem Mp.drop {ty : TypeId} (h : Mp P k w b l) (K : Keyed P k) (ht : P.underlying t = some (.map k e)) {x v : Value} (hm : (x, v) ∈ l) :
    ∃ o j, (Builtin.delete_ #[t, k] ty #[.map (some b), x]).run P w = .ok (.tuple #[]) (setBlock w b o) ∧ l[j]? = some (x, v) ∧ Mp P k (setBlock w b o) b (l.eraseIdx j) := by
  obtain ⟨es, clock, hb, rfl, h3, h4⟩ := h.ex
  obtain ⟨lx, hlx⟩ := h.keys _ hm
  rcases find_at K h.keys ⟨lx, hlx⟩ w with ⟨_, h2⟩ | ⟨j, v', h1, h2⟩
  · exact absurd (List.mem_map.2 ⟨_, hm, rfl⟩) h2
  · have hv : v' = v := eq_of_key h.once (List.mem_of_getElem? h2) hm
    subst hv
    have hlist : (es.eraseIdxIfInBounds j).toList = es.toList.eraseIdx j := by
      unfold Array.eraseIdxIfInBounds
      split
      · simp
      · next hn => rw [List.eraseIdx_of_length_le (by simpa using Nat.not_lt.1 hn)]
    refine ⟨.map (es.eraseIdxIfInBounds j) clock, j, ?_, h2, ⟨⟨_, _, set_same hb, ?_, ?_, ?_⟩, ?_, ?_⟩⟩
    · simp [Builtin.delete_, run_underlying ht, MapKept.run_getObj_map hb, K.check w _ hlx, h1, MapKept.run_setObj_map _ hb, Result.andThen, setBlock]
    · rw [hlist, er_map]
    · rw [hlist]
      exact fun q hq => h3 q (List.mem_of_mem_eraseIdx hq)
    · rw [hlist, er_map]
      exact h4.sublist (List.eraseIdx_sublist _ _)
    · exact fun p hp => h.keys p (List.mem_of_mem_eraseIdx hp)
    · rw [er_map]
      exact h.once.sublist (List.eraseIdx_sublist _ _)
/-- len(m) -/
theorem Mp.len (h : Mp P k w b l) (ht : P.underlying t = some (.map k e)) (ty : TypeId) : (Builtin.len_ #[t] ty #[.map (some b)]).run P w = .ok (.int .i64 l.length) w := by
  obtain ⟨es, clock, hb, rfl, _, _⟩ := h.ex
  simp [Builtin.len_, run_underlying ht, MapKept.run_getObj_map hb, goInt, Result.andThen]
/-- a map under way: what is still to come -/
def It (P : Program) (k : TypeId) (w : World) (r b : Nat) (l todo : List (Value × Value)) : Prop :=
  Mp P k w b l ∧ ∃ es clock since seen c0, w.heap[b]? = some (.map es clock) ∧ es.toList.map kv = l ∧ (es.toList.map (·.born)).Nodup ∧ w.heap[r]? = some (.mapIter (some b) since seen c0) ∧ (∀ x ∈ es.toList, x.born < since) ∧ since ≤ c0 ∧ since ≤ clock ∧ (leftOf es seen).toList.map kv = todo
theorem It.mp {r : Nat} {todo : List (Value × Value)} (h : It P k w r b l todo) : Mp P k w b l := h.1
theorem It.ltr {r : Nat} {todo : List (Value × Value)} (h : It P k w r b l todo) : r < w.heap.size := by
  obtain ⟨_, es, clock, since, seen, c0, _, _, _, hr, _⟩ := h
  exact (Array.getElem?_eq_some_iff.1 hr).1
theorem It.same {r : Nat} {todo : List (Value × Value)} (h : It P k w r b l todo) (hb : w'.heap[b]? = w.heap[b]?) (hr : w'.heap[r]? = w.heap[r]?) : It P k w' r b l todo := by
  obtain ⟨h0, es, clock, since, seen, c0, h1, h2, h3, h4, h5⟩ := h
  exact ⟨h0.same hb, es, clock, since, seen, c0, hb.trans h1, h2, h3, hr.trans h4, h5⟩
theorem It.sub {r : Nat} {todo : List (Value × Value)} (h : It P k w r b l todo) : ∀ p ∈ todo, p ∈ l := by
  obtain ⟨_, es, clock, since, seen, c0, _, rfl, _, _, _, _, _, rfl⟩ := h
  intro p hp
  obtain ⟨e, he, rfl⟩ := List.mem_map.1 hp
  unfold leftOf at he
  exact List.mem_map.2 ⟨e, by simp at he ⊢; exact he.1, rfl⟩
/-- range m -/
theorem Mp.range (h : Mp P k w b l) (ht : P.underlying t = some (.map k e)) :
    ∃ o, (Instr.range t (.map (some b))).run P w = .ok (.pointer (some ⟨w.heap.size, 0, none⟩)) (w.alloc o) ∧ It P k (w.alloc o) w.heap.size b l l := by
  have hlt := h.lt
  have h0 := h
  obtain ⟨es, clock, hb, rfl, h3, h4⟩ := h.ex
  have hb' : (w.alloc (.mapIter (some b) clock #[] clock)).heap[b]? = some (.map es clock) := (Below.heap_alloc w _ b hlt).trans hb
  refine ⟨.mapIter (some b) clock #[] clock, run_range_map w t k e b es clock ht hb, h0.same (Below.heap_alloc w _ b hlt), es, clock, clock, #[], clock, hb', rfl, h4, heap_alloc_new w _, h3, Nat.le_refl _, Nat.le_refl _, ?_⟩
  unfold leftOf
  rw [Array.toList_filter, List.filter_eq_self.2 (by simp)]
theorem left_push {es : Array MapEntry} {seen : Array Nat} (hn : (es.toList.map (·.born)).Nodup) {j : Nat} {x : MapEntry} (hj : (leftOf es seen).toList[j]? = some x) : (leftOf es (seen.push x.born)).toList = (leftOf es seen).toList.eraseIdx j := by
  have e1 : (leftOf es (seen.push x.born)).toList = (leftOf es seen).toList.filter (fun e => e.born != x.born) := by
    unfold leftOf
    rw [Array.toList_filter, Array.toList_filter, List.filter_filter]
    congr 1
    funext e
    rw [Array.contains_push]
    cases seen.contains e.born <;> cases h2 : (e.born == x.born) <;> simp [bne, h2]
  have hn2 : ((leftOf es seen).toList.map (·.born)).Nodup := by
    unfold leftOf
    rw [Array.toList_filter]
    exact hn.sublist (List.filter_sublist.map _)
  rw [e1]
  generalize (leftOf es seen).toList = L at hj hn2
  clear e1
  induction L generalizing j with
  | nil => simp at hj
  | cons y L ih =>
    rw [List.map_cons, List.nodup_cons] at hn2
    cases j with
    | zero =>
      simp only [List.getElem?_cons_zero, Option.some.injEq] at hj
      subst hj
      rw [List.filter_cons_of_neg (by simp), List.eraseIdx_cons_zero, List.filter_eq_self]
      intro e he
      have : e.born ≠ y.born := fun q => hn2.1 (List.mem_map.2 ⟨e, he, q⟩)
      simp [bne, this]
    | succ j =>
      simp only [List.getElem?_cons_succ] at hj
      have : y.born ≠ x.born := fun q => hn2.1 (List.mem_map.2 ⟨x, List.mem_of_getElem? hj, q.symm⟩)
      rw [List.filter_cons_of_pos (by simp [bne, this]), List.eraseIdx_cons_succ, ih hj hn2.2]
/-- the step -/
theorem It.next {r : Nat} {todo : List (Value × Value)} (h : It P k w r b l todo) (ty : TypeId) :
    (todo = [] ∧ (Instr.next (.pointer (some ⟨r, 0, none⟩)) false ty).run P w = .ok (.tuple #[.bool false]) w) ∨
    ∃ j x v w', todo[j]? = some (x, v) ∧ (Instr.next (.pointer (some ⟨r, 0, none⟩)) false ty).run P w = .ok (.tuple #[.bool true, x, v]) w' ∧ It P k w' r b l (todo.eraseIdx j) ∧ w.grownBy w' (some r) ∧ w'.heap.size = w.heap.size ∧
      (Instr.entry (.pointer (some ⟨r, 0, none⟩))).run P w' = .ok (.tuple #[x, v]) w' := by
  obtain ⟨h0, es, clock, since, seen, c0, hb, h2, hn, hr, hold, hsc, hsk, htd⟩ := h
  have hne : r ≠ b := fun q => by rw [q, hb] at hr; cases hr
  rcases run_next_at (P := P) w ty r b since c0 seen es clock hr hb hold hsc with ⟨hz, hrun⟩ | ⟨e, he, w1, hal, hrun⟩
  · refine Or.inl ⟨?_, hrun⟩
    have : (leftOf es seen) = #[] := Array.eq_empty_of_size_eq_zero hz
    rw [← htd, this]
    rfl
  · obtain ⟨j, hj, hje⟩ := List.getElem_of_mem he
    have hj? : (leftOf es seen).toList[j]? = some e := by rw [List.getElem?_eq_getElem hj, hje]
    have hr1 : w1.heap[r]? = some (.mapIter (some b) since seen c0) := by rcases hal with rfl | rfl <;> exact hr
    have hb1 : w1.heap[b]? = some (.map es clock) := by rcases hal with rfl | rfl <;> exact hb
    have hb2 : (setBlock w1 r (.mapIter (some b) since (seen.push e.born) clock)).heap[b]? = some (.map es clock) := by
      simp only [setBlock]
      rw [Array.getElem?_setIfInBounds_ne hne]
      exact hb1
    have hr2 := set_same (o' := .mapIter (some b) since (seen.push e.born) clock) hr1
    have heL : e ∈ es.toList := by unfold leftOf at he; simp at he ⊢; exact he.1
    refine Or.inr ⟨j, e.key, e.val, _, ?_, hrun, ⟨h0.same (hb2.trans hb.symm), es, clock, since, seen.push e.born, clock, hb2, h2, hn, hr2, hold, hsk, hsk, ?_⟩, ?_, ?_, run_entry_at _ r b since seen es clock e hr2 hb2 heL hn⟩
    · rw [← htd, List.getElem?_map, hj?]
      rfl
    · rw [left_push hn hj?, ← htd, er_map]
    · have g := set_only w1 r (.mapIter (some b) since (seen.push e.born) clock)
      rcases hal with rfl | rfl
      · exact g
      · exact ⟨g.os, g.tape, g.output, g.size, g.block⟩
    · rcases hal with rfl | rfl <;> simp [setBlock]
theorem range_nil (ht : P.underlying t = some (.map k e)) : (Instr.range t (.map none)).run P w = .ok (.pointer (some ⟨w.heap.size, 0, none⟩)) (w.alloc (.mapIter none 0 #[] 0)) := by
  simp [Instr.range, run_underlying ht, Result.andThen, newObj, Sem.run]
theorem next_nil {r : Nat} (hr : w.heap[r]? = some (.mapIter none 0 #[] 0)) (ty : TypeId) : (Instr.next (.pointer (some ⟨r, 0, none⟩)) false ty).run P w = .ok (.tuple #[.bool false]) w := by
  simp [Instr.next, getObj, Sem.run, hr, Result.andThen]
end
end Go.Proofs.YtilcnhdfdgmekaaGreat.FMap
namespace Go.Proofs.YtilcnhdfdgmekaaGreat.TurnB
open Go.RowKit Base

theorem heap_lt {w : World} {b : Nat} {o : Obj} (h : w.heap[b]? = some o) : b < w.heap.size := (Array.getElem?_eq_some_iff.1 h).1
/-- only blocks of F, and what is new, have turned -/
structure Turn (F : Nat → Prop) (w w' : World) : Prop where
  os : w'.os = w.os
  tape : w'.tape = w.tape
  output : w'.output = w.output
  size : w.heap.size ≤ w'.heap.size
  block : ∀ k, k < w.heap.size → ¬ F k → w'.heap[k]? = w.heap[k]?
section
variable {F G : Nat → Prop} {a b w : World}
theorem Turn.refl (F : Nat → Prop) (w : World) : Turn F w w := ⟨rfl, rfl, rfl, Nat.le_refl _, fun _ _ _ => rfl⟩
theorem Turn.trans {c : World} (h : Turn F a b) (k : Turn G b c) (hG : ∀ i, i < a.heap.size → G i → F i) : Turn F a c :=
  ⟨k.os.trans h.os, k.tape.trans h.tape, k.output.trans h.output, Nat.le_trans h.size k.size, fun i hi hn => (k.block i (Nat.lt_of_lt_of_le hi h.size) (fun g => hn (hG i hi g))).trans (h.block i hi hn)⟩
theorem Turn.step {c : World} (h : Turn F a b) (k : Turn F b c) : Turn F a c := h.trans k fun _ _ g => g
theorem Turn.mono (h : Turn F a b) (hG : ∀ i, i < a.heap.size → F i → G i) : Turn G a b := ⟨h.os, h.tape, h.output, h.size, fun i hi hn => h.block i hi fun f => hn (hG i hi f)⟩
theorem Turn.drew (h : Turn F a w) : Turn F a w.drew := ⟨h.os, h.tape, h.output, h.size, h.block⟩
theorem Turn.drewN (h : Turn F a w) (n : Nat) : Turn F a (w.drewN n) := ⟨h.os, h.tape, h.output, h.size, h.block⟩
theorem Turn.alloc (h : Turn F a w) (o : Obj) : Turn F a (w.alloc o) :=
  ⟨h.os, h.tape, h.output, Nat.le_trans h.size (by simp), fun i hi hn => (Below.heap_alloc w o i (Nat.lt_of_lt_of_le hi h.size)).trans (h.block i hi hn)⟩
theorem Turn.set (h : Turn F a w) (p : Addr) (hp : a.heap.size ≤ p.block ∨ F p.block) (u : Value) : Turn F a (w.setCell p u) :=
  ⟨h.os, h.tape, h.output, by simpa [World.setCell] using h.size, fun i hi hn => (Below.heap_setCell w p u i (by rintro rfl; exact hp.elim (fun q => by omega) hn)).trans (h.block i hi hn)⟩
theorem Turn.ofGrown {row : Option Nat} (h : a.grownBy w row) (hr : ∀ k, row = some k → k < a.heap.size → F k) : Turn F a w := ⟨h.os, h.tape, h.output, h.size, fun i hi hn => h.block i hi (fun e => hn (hr i e.symm hi))⟩
theorem Turn.ofBelow (h : Below a.heap.size a w) : Turn F a w := ⟨h.os, h.tape, h.output, h.size, fun i hi _ => h.block i hi⟩
theorem Turn.below (h : Turn F a w) {B : Nat} (hB : B ≤ a.heap.size) (hF : ∀ k, F k → B ≤ k) : Below B a w := ⟨h.os, h.tape, h.output, h.size, fun i hi => h.block i (by omega) (fun f => by have := hF i f; omega)⟩
theorem Turn.belowOf (h : Turn F a w) {W : World} {B : Nat} (hb : Below B W a) (hB : B ≤ a.heap.size) (hF : ∀ k, F k → B ≤ k) : Below B W w := hb.trans (h.below hB hF)
/-- what lies in a block that has not turned -/
theorem Turn.at (h : Turn F a w) {k : Nat} {o : Obj} (hk : a.heap[k]? = some o) (hn : ¬ F k) : w.heap[k]? = some o := (h.block k (heap_lt hk) hn).trans hk
theorem Turn.still (h : Turn (fun _ => False) a w) : Below a.heap.size a w := h.below (Nat.le_refl _) fun _ h => h.elim
end
end Go.Proofs.YtilcnhdfdgmekaaGreat.TurnB
