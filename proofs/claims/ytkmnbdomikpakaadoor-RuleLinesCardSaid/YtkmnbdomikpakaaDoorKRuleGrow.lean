/- Rules that grow in memory, kind by kind, rule by rule: the row of kinds and the last kind's row of rules are one's own. -/
import Derived.Test.YtkmnbdomikpakaaDoorKRuleReadE
namespace Go.Proofs.YtkmnbdomikpakaaDoor.RuleGrow
open Go.RowKit Base KeyPlain TuplePlain TupleRef RulePlain RuleMem RuleRec RuleAlike RuleRow RuleCopied TurnB

/-- a row that lies in blocks from lo on, in neither of two -/
def S2 (lo gk : Nat) (gr : Option Nat) (w : World) (a : Addr) (vs : List Value) : Prop := lo ≤ a.block ∧ a.block ≠ gk ∧ gr ≠ some a.block ∧ Sees w w.heap.size a vs
def LayRF (S : Addr → List Value → Prop) (r : Rl) (q : List Value) : Prop := ∃ qe, q = .string r.rel :: qe ∧ LayF S r.e qe
theorem LayRF.imp {S S' : Addr → List Value → Prop} {r : Rl} {q : List Value} (h : LayRF S r q) (hs : ∀ a vs, S a vs → S' a vs) : LayRF S' r q := by
  obtain ⟨qe, e, h⟩ := h
  exact ⟨qe, e, h.imp hs⟩
theorem LayRF.len {S : Addr → List Value → Prop} {r : Rl} {q : List Value} (h : LayRF S r q) : q.length = 5 := by
  obtain ⟨qe, rfl, h⟩ := h
  rw [List.length_cons, h.len]
theorem LayRF.one {S : Addr → List Value → Prop} {r : Rl} {q : List Value} (h : LayRF S r q) : ∀ u ∈ q, u.oneCell' = true := by
  obtain ⟨qe, rfl, h⟩ := h
  intro u hu
  rcases List.mem_cons.1 hu with rfl | hu
  · rfl
  · exact h.one u hu
/-- a kind's cells -/
def LayKF (S : Addr → List Value → Prop) (k : Kd) (q : List Value) : Prop := ∃ R c, q = [.string k.name, .slice R k.rules.length c] ∧ k.rules.length ≤ maxLen ∧ ∃ rq : Nat → List Value, ∀ j (hj : j < k.rules.length), (∃ ad, R = some ad ∧ S (ad.add (j * 5)) (rq j)) ∧ LayRF S k.rules[j] (rq j)
theorem LayKF.imp {S S' : Addr → List Value → Prop} {k : Kd} {q : List Value} (h : LayKF S k q) (hs : ∀ a vs, S a vs → S' a vs) : LayKF S' k q := by
  obtain ⟨R, c, e, hl, rq, h⟩ := h
  refine ⟨R, c, e, hl, rq, fun j hj => ?_⟩
  obtain ⟨⟨ad, h1, h2⟩, h3⟩ := h j hj
  exact ⟨⟨ad, h1, hs _ _ h2⟩, h3.imp hs⟩
/-- the last kind: its rules lie in an own row -/
structure LastK (lo gk : Nat) (gr : Option Nat) (w : World) (k : Kd) (R : Option Addr) (c : Nat) (rq : Nat → List Value) : Prop where
  own : w.ownsRow lo 47 5 (.slice R k.rules.length c) k.rules.length ((List.range k.rules.length).flatMap rq)
  blk : gr = (Value.slice R k.rules.length c).ownBlock
  ne : gr ≠ some gk
  len : ∀ j, j < k.rules.length → (rq j).length = 5
  lay : ∀ j (hj : j < k.rules.length), LayRF (S2 lo gk gr w) k.rules[j] (rq j)
/-- kinds ahead of the last, and it -/
structure Grow (lo : Nat) (w : World) (gk c : Nat) (l : List Kd) (k : Kd) (kq : Nat → List Value) (gr : Option Nat) (R : Option Addr) (cr : Nat) (rq : Nat → List Value) : Prop where
  own : w.ownsRow lo 42 2 (.slice (some ⟨gk, 0, none⟩) (l.length + 1) c) (l.length + 1) ((List.range (l.length + 1)).flatMap kq)
  len : ∀ i, i < l.length + 1 → (kq i).length = 2
  last : kq l.length = [.string k.name, .slice R k.rules.length cr]
  lay : ∀ i (hi : i < l.length), LayKF (S2 lo gk gr w) l[i] (kq i)
  own2 : LastK lo gk gr w k R cr rq
section
variable {lo gk c cr : Nat} {w w' : World} {l : List Kd} {k : Kd} {kq rq : Nat → List Value} {gr : Option Nat} {R : Option Addr}
theorem own_turn {e : TypeId} {size n : Nat} {v : Value} {xs : List Value} (h : w.ownsRow lo e size v n xs) (hT : Turn (fun g => g < lo) w w') : w'.ownsRow lo e size v n xs := by
  refine ⟨h.1, ?_⟩
  rcases h.2 with h1 | ⟨g, cap, cur, h1, h2, h3, h4⟩
  · exact .inl h1
  · exact .inr ⟨g, cap, cur, h1, h2, hT.at h3 (by omega), h4⟩
theorem s2_turn {a : Addr} {vs : List Value} (h : S2 lo gk gr w a vs) (hT : Turn (fun g => g < lo) w w') : S2 lo gk gr w' a vs := by
  refine ⟨h.1, h.2.1, h.2.2.1, Nat.lt_of_lt_of_le h.2.2.2.1 hT.size, fun j v hv => ?_⟩
  have e := hT.block a.block h.2.2.2.1 (by have := h.1; omega)
  exact (World.cell?_of_block (by rw [blk_add]; exact e)).trans (h.2.2.2.2 j v hv)
theorem Grow.turn (h : Grow lo w gk c l k kq gr R cr rq) (hT : Turn (fun g => g < lo) w w') : Grow lo w' gk c l k kq gr R cr rq :=
  ⟨own_turn h.own hT, h.len, h.last, fun i hi => (h.lay i hi).imp fun _ _ s => s2_turn s hT,
    ⟨own_turn h.own2.own hT, h.own2.blk, h.own2.ne, h.own2.len, fun j hj => (h.own2.lay j hj).imp fun _ _ s => s2_turn s hT⟩⟩
theorem s2_grown {a : Addr} {vs : List Value} (h : S2 lo gk gr w a vs) {row : Option Nat} (hg : w.grownBy w' row) (hr : row ≠ some a.block) {gk' : Nat} {gr' : Option Nat} (h1 : a.block ≠ gk') (h2 : gr' ≠ some a.block) : S2 lo gk' gr' w' a vs := by
  refine ⟨h.1, h1, h2, Nat.lt_of_lt_of_le h.2.2.2.1 hg.size, fun j v hv => ?_⟩
  have e := hg.block a.block h.2.2.2.1 (fun e => hr e.symm)
  exact (World.cell?_of_block (by rw [blk_add]; exact e)).trans (h.2.2.2.2 j v hv)
theorem flat_snoc {q : Nat → List Value} {n : Nat} {x : List Value} : (List.range (n + 1)).flatMap (fun i => if i = n then x else q i) = (List.range n).flatMap q ++ x := by
  rw [List.range_succ, List.flatMap_append]
  congr 1
  · rw [List.flatMap_def, List.flatMap_def]
    congr 1
    refine List.map_congr_left fun i hi => ?_
    have := List.mem_range.1 hi
    rw [if_neg (by omega)]
  · simp
/-- where the row of kinds lies -/
theorem Grow.at (h : Grow lo w gk c l k kq gr R cr rq) : lo ≤ gk ∧ gk < w.heap.size ∧ (Value.slice (some ⟨gk, 0, none⟩) (l.length + 1) c).ownBlock = some gk := ⟨(h.own.lt gk rfl).1, (h.own.lt gk rfl).2, rfl⟩
/-- the last kind's cells -/
theorem Grow.cells (h : Grow lo w gk c l k kq gr R cr rq) : w.cell? ⟨gk, l.length * 2, none⟩ = some (.string k.name) ∧ w.cell? ⟨gk, l.length * 2 + 1, none⟩ = some (.slice R k.rules.length cr) ∧ w.frozen? ⟨gk, l.length * 2 + 1, none⟩ = false := by
  obtain ⟨g, cur, e, h1, h2, h3, h4, h5, _⟩ := own_sees (by omega) h.len h.own
  injection e with e
  injection e with e
  subst e
  have h6 := h5 l.length 0 (by omega) (by omega)
  have h7 := h5 l.length 1 (by omega) (by omega)
  rw [h.last] at h6 h7
  refine ⟨?_, ?_, by simp [World.frozen?, h3]⟩
  · simp only [World.cell?, h3]
    exact h6
  · simp only [World.cell?, h3]
    exact h7
/-- the last kind's rules, as rows that lie still -/
theorem LastK.still (h : LastK lo gk gr w k R cr rq) (hl : k.rules.length ≤ maxLen) {S : Addr → List Value → Prop} (hs : ∀ a vs, S2 lo gk gr w a vs → S a vs) (ho : ∀ g j, gr = some g → j < k.rules.length → Sees w w.heap.size ((⟨g, 0, none⟩ : Addr).add (j * 5)) (rq j) → S ((⟨g, 0, none⟩ : Addr).add (j * 5)) (rq j)) :
    LayKF S k [.string k.name, .slice R k.rules.length cr] := by
  refine ⟨R, cr, rfl, hl, rq, fun j hj => ⟨?_, (h.lay j hj).imp hs⟩⟩
  obtain ⟨g, cur, rfl, h1, h2, _, _, _, h3⟩ := own_sees (by omega) h.len h.own
  exact ⟨_, rfl, ho g j (by rw [h.blk]; rfl) hj (h3 j hj)⟩
/-- a kind more -/
theorem Grow.pushK {A' : Option Addr} {c' : Nat} {name : ByteArray} (h : Grow lo w gk c l k kq gr R cr rq) (hl : k.rules.length ≤ maxLen)
    (ho : w'.ownsRow lo 42 2 (.slice A' (l.length + 1 + 1) c') (l.length + 1 + 1) ((List.range (l.length + 1)).flatMap kq ++ [.string name, .slice none 0 0])) (hg : w.grownBy w' (some gk))
    (hloc : (Value.slice A' (l.length + 1 + 1) c').ownBlock = some gk ∨ (Value.slice A' (l.length + 1 + 1) c').ownBlock = some w.heap.size) :
    ∃ gk' kq', A' = some ⟨gk', 0, none⟩ ∧ Grow lo w' gk' c' (l ++ [k]) ⟨name, []⟩ kq' none none 0 (fun _ => []) := by
  have hA : ∃ gk', A' = some ⟨gk', 0, none⟩ ∧ (gk' = gk ∨ gk' = w.heap.size) := by
    rcases ho.2 with ⟨_, h1⟩ | ⟨g, cap, cur, h1, _⟩
    · omega
    · injection h1 with h1 _ _
      subst h1
      refine ⟨g, rfl, ?_⟩
      rcases hloc with e | e <;> (simp only [Value.ownBlock, Option.some.injEq] at e)
      · exact .inl e
      · exact .inr e
  obtain ⟨gk', rfl, hgk⟩ := hA
  have hlen : (l ++ [k]).length = l.length + 1 := by simp
  refine ⟨gk', fun i => if i = l.length + 1 then [.string name, .slice none 0 0] else kq i, rfl, ?_, ?_, ?_, ?_, ?_⟩
  · rw [hlen, flat_snoc]; exact ho
  · intro i hi
    rw [hlen] at hi
    by_cases e : i = l.length + 1
    · rw [if_pos e]; rfl
    · rw [if_neg e]; exact h.len i (by omega)
  · rw [hlen, if_pos rfl]
    rfl
  · intro i hi
    rw [hlen] at hi
    rw [if_neg (by omega)]
    have hmv : ∀ a vs, S2 lo gk gr w a vs → S2 lo gk' none w' a vs := fun a vs s => s2_grown s hg (fun e => s.2.1 (Option.some.inj e).symm) (by rcases hgk with e | e <;> rw [e]; exact s.2.1; have := s.2.2.2.1; omega) (by simp)
    by_cases e : i < l.length
    · rw [List.getElem_append_left e]
      exact (h.lay i e).imp hmv
    · obtain rfl : i = l.length := by omega
      simp only [List.getElem_concat_length, h.last]
      refine h.own2.still hl hmv fun g j hg' hj hs => ?_
      have hgb := h.own2.own.lt g (by rw [← h.own2.blk]; exact hg')
      have hne : g ≠ gk := fun e => h.own2.ne (by rw [hg', e])
      refine s2_grown (gk := gk) (gr := none) ⟨by rw [blk_add]; exact hgb.1, by rw [blk_add]; exact hne, by simp, hs⟩ hg (by rw [blk_add]; exact fun e => hne (Option.some.inj e).symm) ?_ (by simp)
      rw [blk_add]
      rcases hgk with e | e <;> rw [e]
      · exact hne
      · have := hgb.2; simp only; omega
  · exact ⟨World.ownsRow_nil _ _ _ _, rfl, by simp, fun j hj => absurd hj (Nat.not_lt_zero _), fun j hj => absurd hj (Nat.not_lt_zero _)⟩
theorem own_set {e : TypeId} {size n g : Nat} {xs : List Value} (h : w.ownsRow lo e size (.slice (some ⟨g, 0, none⟩) n c) n xs) (j : Nat) (v : Value) : (w.setCell ⟨g, j, none⟩ v).ownsRow lo e size (.slice (some ⟨g, 0, none⟩) n c) n (xs.set j v) := by
  refine ⟨by rw [List.length_set]; exact h.1, ?_⟩
  rcases h.2 with ⟨h1, _⟩ | ⟨g', cap, cur, h1, h2, h3, h4, h5, h6, h7⟩
  · cases h1
  · injection h1 with h1 _ h8
    injection h1 with h1
    injection h1 with h1
    subst h1 h8
    refine .inr ⟨g, _, cur.setIfInBounds j v, rfl, h2, at_set h3 j v, h4, h5, by rw [Array.size_setIfInBounds]; exact h6, ?_⟩
    rw [Array.toList_setIfInBounds, List.take_set, h7]
theorem grown_set (w : World) (g j : Nat) (v : Value) : w.grownBy (w.setCell ⟨g, j, none⟩ v) (some g) := ⟨rfl, rfl, rfl, by simp [World.setCell], fun k _ hk => Below.heap_setCell _ _ _ _ (fun e => hk (by rw [e]))⟩
theorem flat_set {q : Nat → List Value} {n : Nat} {x y v : Value} (hq : ∀ i, i < n + 1 → (q i).length = 2) (hl : q n = [x, y]) : ((List.range (n + 1)).flatMap q).set (n * 2 + 1) v = (List.range (n + 1)).flatMap (fun i => if i = n then [x, v] else q i) := by
  rw [flat_snoc, List.range_succ, List.flatMap_append]
  have h := flat_len (q := q) (stride := 2) n fun i hi => hq i (by omega)
  rw [List.set_append_right _ _ (by omega), h]
  simp [hl]
/-- a rule more, of the last kind -/
theorem Grow.pushR {R' : Option Addr} {cr' : Nat} {r : Rl} {x : List Value} (h : Grow lo w gk c l k kq gr R cr rq) (hx : LayRF (S2 lo gk gr w) r x)
    (ho : w'.ownsRow lo 47 5 (.slice R' (k.rules.length + 1) cr') (k.rules.length + 1) ((List.range k.rules.length).flatMap rq ++ x)) (hg : w.grownBy w' gr)
    (hloc : (Value.slice R' (k.rules.length + 1) cr').ownBlock = gr ∨ (Value.slice R' (k.rules.length + 1) cr').ownBlock = some w.heap.size) :
    ∃ kq' gr' rq', Grow lo (w'.setCell ⟨gk, l.length * 2 + 1, none⟩ (.slice R' (k.rules.length + 1) cr')) gk c l ⟨k.name, k.rules ++ [r]⟩ kq' gr' R' cr' rq' := by
  have hgk := h.at
  have hlen : (k.rules ++ [r]).length = k.rules.length + 1 := by simp
  have hgs := grown_set w' gk (l.length * 2 + 1) (.slice R' (k.rules.length + 1) cr')
  have hne' : (Value.slice R' (k.rules.length + 1) cr').ownBlock ≠ some gk := by
    rcases hloc with e | e <;> rw [e]
    · exact h.own2.ne
    · intro e; injection e with e; have := hgk.2.1; omega
  have hmv : ∀ a vs, S2 lo gk gr w a vs → S2 lo gk (Value.slice R' (k.rules.length + 1) cr').ownBlock (w'.setCell ⟨gk, l.length * 2 + 1, none⟩ (.slice R' (k.rules.length + 1) cr')) a vs := fun a vs s => by
    have hb : (Value.slice R' (k.rules.length + 1) cr').ownBlock ≠ some a.block := by
      rcases hloc with e | e <;> rw [e]
      · exact s.2.2.1
      · intro e; injection e with e; have := s.2.2.2.1; omega
    exact s2_grown (s2_grown s hg s.2.2.1 s.2.1 hb) hgs (fun e => s.2.1 (Option.some.inj e).symm) s.2.1 hb
  refine ⟨fun i => if i = l.length then [.string k.name, .slice R' (k.rules.length + 1) cr'] else kq i, (Value.slice R' (k.rules.length + 1) cr').ownBlock, fun j => if j = k.rules.length then x else rq j, ?_, ?_, ?_, ?_, ?_, ?_, ?_, ?_, ?_⟩
  · rw [← flat_set (y := .slice R k.rules.length cr) h.len h.last]
    exact own_set (World.ownsRow.kept h.own hg (.inr (fun e => h.own2.ne (by rw [← e]; rfl)))) _ _
  · intro i hi
    split
    · rfl
    · exact h.len i hi
  · rw [if_pos rfl, hlen]
  · intro i hi
    rw [if_neg (by omega)]
    exact (h.lay i hi).imp hmv
  · dsimp only
    rw [hlen, flat_snoc]
    exact World.ownsRow.kept ho hgs (.inr hne')
  · rw [hlen]
  · exact hne'
  · intro j hj
    rw [hlen] at hj
    split
    · exact hx.len
    · exact h.own2.len j (by omega)
  · intro j hj
    rw [hlen] at hj
    by_cases e : j < k.rules.length
    · rw [if_neg (by omega)]
      simp only [List.getElem_append_left e]
      exact (h.own2.lay j e).imp hmv
    · obtain rfl : j = k.rules.length := by omega
      rw [if_pos rfl]
      simp only [List.getElem_concat_length]
      exact hx.imp hmv
/-- the whole -/
theorem Grow.all (h : Grow lo w gk c l k kq gr R cr rq) (hl : k.rules.length ≤ maxLen) : LayL w w.heap.size (some ⟨gk, 0, none⟩) (l ++ [k]) := by
  obtain ⟨g, cur, e, h1, h2, h3, h4, h5, h6⟩ := own_sees (by omega) h.len h.own
  injection e with e
  injection e with e
  subst e
  have hR : ∀ (r : Rl) q, LayRF (S2 lo gk gr w) r q → LayR w w.heap.size r q := fun r q ⟨qe, e, hq⟩ => ⟨qe, (hq.imp fun _ _ s => s.2.2.2).lay, e⟩
  have hK : ∀ (k : Kd) q, LayKF (S2 lo gk gr w) k q → LayK w w.heap.size k q := fun k q ⟨R, c, e, hm, rq, hq⟩ => ⟨R, c, e, ⟨rq, fun j hj => ⟨by obtain ⟨⟨ad, a1, a2⟩, _⟩ := hq j hj; exact ⟨ad, a1, a2.2.2.2⟩, hR _ _ (hq j hj).2⟩⟩, hm⟩
  refine ⟨kq, fun i hi => ?_⟩
  have hlen : (l ++ [k]).length = l.length + 1 := by simp
  rw [hlen] at hi
  refine ⟨⟨_, rfl, h6 i hi⟩, ?_⟩
  by_cases e : i < l.length
  · rw [List.getElem_append_left e]
    exact hK _ _ (h.lay i e)
  · obtain rfl : i = l.length := by omega
    simp only [List.getElem_concat_length, h.last]
    refine ⟨R, cr, rfl, ⟨rq, fun j hj => ⟨?_, hR _ _ (h.own2.lay j hj)⟩⟩, hl⟩
    obtain ⟨g, cur, rfl, _, _, _, _, _, h9⟩ := own_sees (by omega) h.own2.len h.own2.own
    exact ⟨_, rfl, h9 j hj⟩
/-- the first kind -/
theorem grow_one {A' : Option Addr} {c' : Nat} {name : ByteArray} (ho : w'.ownsRow lo 42 2 (.slice A' 1 c') 1 [.string name, .slice none 0 0]) : ∃ gk kq, A' = some ⟨gk, 0, none⟩ ∧ Grow lo w' gk c' [] ⟨name, []⟩ kq none none 0 (fun _ => []) := by
  have hA : ∃ gk, A' = some ⟨gk, 0, none⟩ := by
    rcases ho.2 with ⟨_, h1⟩ | ⟨g, cap, cur, h1, _⟩
    · omega
    · injection h1 with h1 _ _
      exact ⟨g, h1⟩
  obtain ⟨gk, rfl⟩ := hA
  exact ⟨gk, fun _ => [.string name, .slice none 0 0], rfl, by simpa using ho, fun _ _ => rfl, rfl, fun i hi => absurd hi (Nat.not_lt_zero _),
    ⟨World.ownsRow_nil _ _ _ _, rfl, by simp, fun j hj => absurd hj (Nat.not_lt_zero _), fun j hj => absurd hj (Nat.not_lt_zero _)⟩⟩
end
end Go.Proofs.YtkmnbdomikpakaaDoor.RuleGrow
