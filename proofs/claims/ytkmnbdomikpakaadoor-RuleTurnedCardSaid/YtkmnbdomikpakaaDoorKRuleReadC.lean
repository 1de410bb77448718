/- The code's Read. -/
import Derived.Test.YtkmnbdomikpakaaDoorKHeld
import Derived.Test.YtkmnbdomikpakaaDoorKRuleCopied
import Derived.Test.YtkmnbdomikpakaaDoorKRuleKok
import Derived.Test.YtkmnbdomikpakaaDoorKRuleRound
import Derived.Test.YtkmnbdomikpakaaDoorKRuleStep
namespace Go.Proofs.YtkmnbdomikpakaaDoor.RuleReadC
open Go.RowKit Go.Shelf Base KeyPlain TuplePlain TupleRef RulePlain RuleMem RuleRec RuleAlike RuleCan RuleLex RuleGl RuleChkC RuleWord RuleRow RuleReadE RulePieces RuleIter RuleRound RuleGrow RuleStep RuleKok RuleSets RuleCopied TurnB
attribute [local go_sem] Oper.semAt_some

theorem lines_make (s : ByteArray) (w : World) : Calls Tryd.prog 25 #[.string s] w fun e w' => e = .returned (.func (.func 50) #[] #[.pointer (some ⟨w.heap.size, 0, none⟩)]) ∧ RuleWord.Left w.heap.size s w' ∧ Below w.heap.size w w' := by
  obtain ⟨w1, hw1⟩ : ∃ v, v = w.alloc (.cells #[.string s] 9) := ⟨_, rfl⟩
  obtain ⟨b, hbe⟩ : ∃ v, v = w.heap.size := ⟨_, rfl⟩
  have hb1 : Below w.heap.size w w1 := by rw [hw1]; exact al _ _
  have a1 : w1.heap[b]? = some (.cells #[.string s] 9 (0, 0)) := by rw [hw1, hbe]; exact heap_alloc_new w _
  have HW := Lib.hid hw1
  have HBE := Lib.hid hbe
  have HR := Lib.hid (And.intro a1 hb1)
  clear hw1 hbe a1 hb1
  rw [← HBE.out]
  go_enter Tryd.func25, Tryd.ntmps25
  go_upto_region 1 with fail
  try rw [← HW.out]
  try rw [← HBE.out]
  clear HW
  go_wp2_with fail
  go_ret
  exact ⟨rfl, HR.out.1, by rw [HBE.out] at *; exact HR.out.2⟩
/-- the kinds read so far -/
def Rows (lo : Nat) (w : World) (A : Option Addr) (c : Nat) (l : List Kd) : Prop := (l = [] ∧ A = none ∧ c = 0) ∨ ∃ l0 k gk kq gr R cr rq, l = l0 ++ [k] ∧ A = some ⟨gk, 0, none⟩ ∧ Grow lo w gk c l0 k kq gr R cr rq
theorem Rows.turn {lo : Nat} {w w' : World} {A : Option Addr} {c : Nat} {l : List Kd} (h : Rows lo w A c l) (hT : Turn (fun g => g < lo) w w') : Rows lo w' A c l := by
  rcases h with h | ⟨l0, k, gk, kq, gr, R, cr, rq, h1, h2, h3⟩
  · exact .inl h
  · exact .inr ⟨l0, k, gk, kq, gr, R, cr, rq, h1, h2, h3.turn hT⟩
/-- the boxes: what is handed back, the rules, how many lines -/
structure Boxes (b0 : Nat) (w : World) (r : Value) (m e : Int) (v : Value) (n : Int) : Prop where
  c0 : w.heap[b0]? = some (.cells #[r] 23 (0, 0))
  c1 : w.heap[b0 + 1]? = some (.cells #[.int .i64 m] 3 (0, 0))
  c2 : w.heap[b0 + 2]? = some (.cells #[.int .i64 e] 24 (0, 0))
  c3 : w.heap[b0 + 3]? = some (.cells #[v] 23 (0, 0))
  c4 : w.heap[b0 + 4]? = some (.cells #[.int .i64 n] 3 (0, 0))
theorem Boxes.turn {b0 : Nat} {w w' : World} {r v : Value} {m e n : Int} (h : Boxes b0 w r m e v n) {F : Nat → Prop} (hT : Turn F w w') (hF : ∀ k, F k → b0 + 4 < k) : Boxes b0 w' r m e v n :=
  ⟨hT.at h.c0 (fun q => by have := hF _ q; omega), hT.at h.c1 (fun q => by have := hF _ q; omega), hT.at h.c2 (fun q => by have := hF _ q; omega), hT.at h.c3 (fun q => by have := hF _ q; omega), hT.at h.c4 (fun q => by have := hF _ q; omega)⟩
theorem load_one {P : Program} {w : World} {t : TypeId} {d : TypeDesc} {a : Addr} {v : Value} (hu : P.underlying t = some d) (hd : (match d with | .struct _ | .array _ _ => true | _ => false) = false) (hc : w.cell? a = some v) : (loadVar t a).run P w = .ok v w := by
  simp [loadVar, Sem.run_bind, run_isAgg_plain hu hd w, go_sem, hc]
theorem results_three {P : Program} {fn : Func} {p q r : Tmp} {t1 t2 t3 : TypeId} (h : fn.results = #[.cell p t1, .cell q t2, .cell r t3]) (tmps : Array Value) (w : World) {a b c : Addr} {x y z : Value}
    (hp : tmps.getD p undef = .pointer (some a)) (hq : tmps.getD q undef = .pointer (some b)) (hr : tmps.getD r undef = .pointer (some c))
    (l1 : (loadVar t1 a).run P w = .ok x w) (l2 : (loadVar t2 b).run P w = .ok y w) (l3 : (loadVar t3 c).run P w = .ok z w) : (results fn tmps).run P w = .ok (.tuple #[x, y, z]) w := by
  have hp' : tmps[p]?.getD undef = .pointer (some a) := by simpa using hp
  have hq' : tmps[q]?.getD undef = .pointer (some b) := by simpa using hq
  have hr' : tmps[r]?.getD undef = .pointer (some c) := by simpa using hr
  simp [results, h, hp', hq', hr', asAddr, l1, l2, l3, Sem.run_bind, Result.andThen]
theorem one_at {w : World} {g : Nat} {t : TypeId} {a : Value} (q : w.heap[g]? = some (.cells #[a] t (0, 0))) : w.cell? ⟨g, 0, none⟩ = some a ∧ w.frozen? ⟨g, 0, none⟩ = false := by
  constructor <;> simp [World.cell?, World.frozen?, q]
theorem Boxes.results {b0 : Nat} {w : World} {r v : Value} {m e n : Int} (h : Boxes b0 w r m e v n) {tmps : Array Value} (hp : tmps.getD 2 undef = .pointer (some ⟨b0, 0, none⟩)) (hq : tmps.getD 3 undef = .pointer (some ⟨b0 + 1, 0, none⟩)) (hr : tmps.getD 4 undef = .pointer (some ⟨b0 + 2, 0, none⟩)) :
    (Go.results Tryd.f10 tmps).run Tryd.prog w = .ok (.tuple #[r, .int .i64 m, .int .i64 e]) w :=
  results_three rfl tmps w hp hq hr (load_one Tryd.underlying23 rfl (one_at h.c0).1) (load_one Tryd.underlying3 rfl (one_at h.c1).1) (load_one Tryd.underlying24 rfl (one_at h.c2).1)
theorem Boxes.set3 {b0 : Nat} {w : World} {r v : Value} {m e n : Int} (h : Boxes b0 w r m e v n) (r' : Value) (m' e' : Int) : Boxes b0 (((w.setCell ⟨b0, 0, none⟩ r').setCell ⟨b0 + 1, 0, none⟩ (.int .i64 m')).setCell ⟨b0 + 2, 0, none⟩ (.int .i64 e')) r' m' e' v n :=
  have k : ∀ (w : World) (g i : Nat) (u : Value) (j : Nat), j ≠ g → (w.setCell ⟨g, i, none⟩ u).heap[j]? = w.heap[j]? := fun w g i u j hj => Below.heap_setCell _ _ _ _ hj
  ⟨(k _ _ _ _ _ (by omega)).trans ((k _ _ _ _ _ (by omega)).trans (at_set h.c0 0 r')), (k _ _ _ _ _ (by omega)).trans (at_set ((k _ _ _ _ _ (by omega)).trans h.c1) 0 (.int .i64 m')), at_set ((k _ _ _ _ _ (by omega)).trans ((k _ _ _ _ _ (by omega)).trans h.c2)) 0 (.int .i64 e'),
    (k _ _ _ _ _ (by omega)).trans ((k _ _ _ _ _ (by omega)).trans ((k _ _ _ _ _ (by omega)).trans h.c3)), (k _ _ _ _ _ (by omega)).trans ((k _ _ _ _ _ (by omega)).trans ((k _ _ _ _ _ (by omega)).trans h.c4))⟩
theorem turn_set3 {F : Nat → Prop} {a w : World} {b0 : Nat} (h : Turn F a w) (hF : ∀ k, b0 ≤ k → k ≤ b0 + 2 → F k) (x y z : Value) : Turn F a (((w.setCell ⟨b0, 0, none⟩ x).setCell ⟨b0 + 1, 0, none⟩ y).setCell ⟨b0 + 2, 0, none⟩ z) :=
  ((h.set _ (.inr (hF _ (by simp) (by simp))) x).set _ (.inr (hF _ (by simp) (by simp))) y).set _ (.inr (hF _ (by simp) (by simp))) z
theorem Rows.all {lo : Nat} {w : World} {A : Option Addr} {c : Nat} {l : List Kd} (h : Rows lo w A c l) (hl : ∀ k, k ∈ l → k.rules.length ≤ maxLen) : LayL w w.heap.size A l := by
  rcases h with ⟨rfl, _, _⟩ | ⟨l0, k, gk, kq, gr, R, cr, rq, rfl, rfl, h⟩
  · exact ⟨fun _ => [], fun i hi => absurd hi (Nat.not_lt_zero i)⟩
  · exact h.all (hl k (by simp))
theorem Rows.pushK {lo : Nat} {w : World} {A : Option Addr} {c : Nat} {l : List Kd} (h : Rows lo w A c l) (hl : ∀ k, k ∈ l → k.rules.length ≤ maxLen) : ∃ xs, w.ownsRow lo 42 2 (.slice A l.length c) l.length xs ∧
    ∀ (w' : World) (A' : Option Addr) (c' : Nat) (name : ByteArray), w'.ownsRow lo 42 2 (.slice A' (l.length + 1) c') (l.length + 1) (xs ++ [.string name, .slice none 0 0]) → w.grownBy w' (Value.slice A l.length c).ownBlock →
      ((Value.slice A' (l.length + 1) c').ownBlock = (Value.slice A l.length c).ownBlock ∨ (Value.slice A' (l.length + 1) c').ownBlock = some w.heap.size) → Rows lo w' A' c' (addK l name) := by
  rcases h with ⟨rfl, rfl, rfl⟩ | ⟨l0, k, gk, kq, gr, R, cr, rq, rfl, rfl, h⟩
  · refine ⟨[], World.ownsRow_nil _ _ _ _, fun w' A' c' name ho _ _ => ?_⟩
    obtain ⟨gk, kq, rfl, h⟩ := grow_one ho
    exact .inr ⟨[], ⟨name, []⟩, gk, kq, none, none, 0, _, rfl, rfl, h⟩
  · have hlen : (l0 ++ [k]).length = l0.length + 1 := by simp
    rw [hlen]
    refine ⟨_, h.own, fun w' A' c' name ho hg hloc => ?_⟩
    obtain ⟨gk', kq', rfl, h'⟩ := h.pushK (hl k (by simp)) ho hg hloc
    exact .inr ⟨l0 ++ [k], ⟨name, []⟩, gk', kq', none, none, 0, _, rfl, rfl, h'⟩
theorem Boxes.set {b0 : Nat} {w : World} {r v : Value} {m e n : Int} (h : Boxes b0 w r m e v n) (v' : Value) : Boxes b0 (w.setCell ⟨b0 + 3, 0, none⟩ v') r m e v' n :=
  have k : ∀ (j : Nat), j ≠ b0 + 3 → (w.setCell ⟨b0 + 3, 0, none⟩ v').heap[j]? = w.heap[j]? := fun j hj => Below.heap_setCell _ _ _ _ hj
  ⟨(k _ (by omega)).trans h.c0, (k _ (by omega)).trans h.c1, (k _ (by omega)).trans h.c2, at_set h.c3 0 v', (k _ (by omega)).trans h.c4⟩
theorem wpListIn_append_run {F : Fence} {n : Nat} {P : Program} {w : World} {ops : Array Oper} {rest : List Oper} {o : Oper} {a : Act} {Q : Exit → Act → World → Prop} (hgd : o.guard = none) (s x : Operand) (t u : TypeId)
    (hop : o.op = Op.call { callee := Callee.builtin Builtin.append, args := #[s, x], argTypes := #[t, u] }) {vs vx v : Value} {w' : World} (hs : a.eval s = vs) (hx : a.eval x = vx)
    (hrun : (Builtin.append_ #[t, u] o.type #[vs, vx]).run P w = .ok v w') (h : wpListIn F n P ops Q rest (a.put o.dst v) w') : wpListIn F n P ops Q (o :: rest) a w := by
  refine wpListIn_plain hgd fun K hK => ?_
  unfold Oper.wpIn
  refine ⟨?_, ?_⟩
  · simp [Oper.about, hop, resolve, Target.leads, Sem.run_pure]
  · rw [Oper.semAt_plain F _ _ (by rw [hop]; intro c hc'; cases hc')]
    simp [execOp, hop, resolve, invoke, builtin, hs, hx, hrun, Result.andThen]
    exact hK _ _ h
theorem wp_append_run {P : Program} {w : World} {o : Oper} {a : Act} {K : Act → World → Prop} {Q : Exit → Act → World → Prop} (s x : Operand) (t u : TypeId)
    (hop : o.op = Op.call { callee := Callee.builtin Builtin.append, args := #[s, x], argTypes := #[t, u] }) {vs vx v : Value} {w' : World} (hs : a.eval s = vs) (hx : a.eval x = vx)
    (hrun : (Builtin.append_ #[t, u] o.type #[vs, vx]).run P w = .ok v w') (h : K (a.put o.dst v) w') : o.wp P a w K Q := by
  unfold Oper.wp
  simp [execOp, hop, resolve, invoke, builtin, hs, hx, hrun, Result.andThen]
  exact h
/-- between two lines -/
def At (w : World) (b0 lo : Nat) (d : List UInt8) (W : World) : Prop := ∃ l A c, can l = true ∧ d = show_ l ∧ Boxes b0 W (.slice none 0 0) 0 0 (.slice A l.length c) ((lines l).length : Nat) ∧ Rows lo W A c l ∧ Below w.heap.size w W
/-- a line was wrong -/
def Off (w : World) (b0 : Nat) (s : List UInt8) (W : World) : Prop := ∃ l rest v n, can l = true ∧ s = show_ l ++ rest ∧ rest ≠ [] ∧ NoLine l.isEmpty rest ∧ Boxes b0 W (.slice none 0 0) (((lines l).length + 1 : Nat) : Int) 120 v n ∧ Below w.heap.size w W
/-- rules of a text, handed out -/
def RdYes (s : ByteArray) (w : World) (e : Ending) (w' : World) : Prop := ∃ l A c, can l = true ∧ show_ l = bl s ∧ checkC l = 0 ∧ e = .returned (.tuple #[.slice A l.length c, .int .i64 0, .int .i64 0]) ∧ LayL w' w'.heap.size A l ∧ Below w.heap.size w w'
/-- the lines are right, and yet the rules may not be -/
def RdOff (s : ByteArray) (w : World) (e : Ending) (w' : World) : Prop := ∃ l, can l = true ∧ show_ l = bl s ∧ checkC l ≠ 0 ∧ e = .returned (.tuple #[.slice none 0 0, .int .i64 0, .int .i64 (checkC l)]) ∧ Below w.heap.size w w'
/-- a line is wrong -/
def RdNo (s : ByteArray) (w : World) (e : Ending) (w' : World) : Prop := ∃ l rest, can l = true ∧ bl s = show_ l ++ rest ∧ rest ≠ [] ∧ NoLine l.isEmpty rest ∧ e = .returned (.tuple #[.slice none 0 0, .int .i64 (((lines l).length + 1 : Nat) : Int), .int .i64 120]) ∧ Below w.heap.size w w'
set_option maxRecDepth 100000 in
set_option maxHeartbeats 12800000 in
theorem read_any (s : ByteArray) (w : World) (hz : s.size ≤ 1000000000) (hG : Gl w) : Calls Tryd.prog 10 #[.string s] w fun e w' => RdYes s w e w' ∨ RdOff s w e w' ∨ RdNo s w e w' := by
  obtain ⟨w1, hw10⟩ : ∃ v, v = w.alloc (.cells #[.slice none 0 0] 23) := ⟨_, rfl⟩
  obtain ⟨b0, hbe0⟩ : ∃ v, v = w.heap.size := ⟨_, rfl⟩
  have hb10 : Below w.heap.size w w1 := by rw [hw10]; exact al _ _
  have a10 : w1.heap[b0]? = some (.cells #[.slice none 0 0] 23 (0, 0)) := by rw [hw10, hbe0]; exact heap_alloc_new w _
  have HW0 := Lib.hid hw10
  have HBE0 := Lib.hid hbe0
  clear hw10 hbe0
  obtain ⟨w2, hw11⟩ : ∃ v, v = w1.alloc (.cells #[.int .i64 0] 3) := ⟨_, rfl⟩
  obtain ⟨b1, hbe1⟩ : ∃ v, v = w1.heap.size := ⟨_, rfl⟩
  have hb11 : Below w1.heap.size w1 w2 := by rw [hw11]; exact al _ _
  have a11 : w2.heap[b1]? = some (.cells #[.int .i64 0] 3 (0, 0)) := by rw [hw11, hbe1]; exact heap_alloc_new w1 _
  have HW1 := Lib.hid hw11
  have HBE1 := Lib.hid hbe1
  clear hw11 hbe1
  obtain ⟨w3, hw12⟩ : ∃ v, v = w2.alloc (.cells #[.int .i64 0] 24) := ⟨_, rfl⟩
  obtain ⟨b2, hbe2⟩ : ∃ v, v = w2.heap.size := ⟨_, rfl⟩
  have hb12 : Below w2.heap.size w2 w3 := by rw [hw12]; exact al _ _
  have a12 : w3.heap[b2]? = some (.cells #[.int .i64 0] 24 (0, 0)) := by rw [hw12, hbe2]; exact heap_alloc_new w2 _
  have HW2 := Lib.hid hw12
  have HBE2 := Lib.hid hbe2
  clear hw12 hbe2
  obtain ⟨w4, hw13⟩ : ∃ v, v = w3.alloc (.cells #[.slice none 0 0] 23) := ⟨_, rfl⟩
  obtain ⟨b3, hbe3⟩ : ∃ v, v = w3.heap.size := ⟨_, rfl⟩
  have hb13 : Below w3.heap.size w3 w4 := by rw [hw13]; exact al _ _
  have a13 : w4.heap[b3]? = some (.cells #[.slice none 0 0] 23 (0, 0)) := by rw [hw13, hbe3]; exact heap_alloc_new w3 _
  have HW3 := Lib.hid hw13
  have HBE3 := Lib.hid hbe3
  clear hw13 hbe3
  obtain ⟨w5, hw14⟩ : ∃ v, v = w4.alloc (.cells #[.int .i64 0] 3) := ⟨_, rfl⟩
  obtain ⟨b4, hbe4⟩ : ∃ v, v = w4.heap.size := ⟨_, rfl⟩
  have hb14 : Below w4.heap.size w4 w5 := by rw [hw14]; exact al _ _
  have a14 : w5.heap[b4]? = some (.cells #[.int .i64 0] 3 (0, 0)) := by rw [hw14, hbe4]; exact heap_alloc_new w4 _
  have HW4 := Lib.hid hw14
  have HBE4 := Lib.hid hbe4
  clear hw14 hbe4
  obtain rfl : b1 = b0 + 1 := by rw [HBE1.out, HW0.out, HBE0.out]; simp
  obtain rfl : b2 = b0 + 2 := by rw [HBE2.out, HW1.out, HW0.out, HBE0.out]; simp
  obtain rfl : b3 = b0 + 3 := by rw [HBE3.out, HW2.out, HW1.out, HW0.out, HBE0.out]; simp
  obtain rfl : b4 = b0 + 4 := by rw [HBE4.out, HW3.out, HW2.out, HW1.out, HW0.out, HBE0.out]; simp
  have HB5 := Lib.hid (Below.step (Below.step (Below.step (Below.step hb10 hb11) hb12) hb13) hb14)
  have HN0 := Lib.hid (show w.heap.size ≤ b0 ∧ b0 + 4 < w5.heap.size from ⟨Nat.le_of_eq HBE0.out.symm, heap_lt a14⟩)
  have e0 : w5.heap[b0]? = _ := (hb14.block _ (by have := heap_lt a13; omega)).trans ((hb13.block _ (by have := heap_lt a12; omega)).trans ((hb12.block _ (by have := heap_lt a11; omega)).trans ((hb11.block _ (heap_lt a10)).trans a10)))
  have e1 : w5.heap[b0 + 1]? = _ := (hb14.block _ (by have := heap_lt a13; omega)).trans ((hb13.block _ (by have := heap_lt a12; omega)).trans ((hb12.block _ (heap_lt a11)).trans a11))
  have e2 : w5.heap[b0 + 2]? = _ := (hb14.block _ (by have := heap_lt a13; omega)).trans ((hb13.block _ (heap_lt a12)).trans a12)
  have e3 : w5.heap[b0 + 3]? = _ := (hb14.block _ (heap_lt a13)).trans a13
  have HE := Lib.hid (And.intro e0 (And.intro e1 (And.intro e2 (And.intro e3 a14))))
  have hcall := (callsIn_wide (n := 4)).2 (lines_make s w5)
  clear hb10 hb11 hb12 hb13 hb14 a10 a11 a12 a13 a14 e0 e1 e2 e3
  refine (callsIn_wide (n := 5)).1 ?_
  refine callsIn_of_wp_marks Tryd.func10 rfl trivial ?_ rfl
  simp only [Tryd.ntmps10, List.size_toArray, List.length_cons, List.length_nil, Nat.reduceAdd, Nat.reduceSub, Array.replicate_succ, Array.replicate_zero, List.push_toArray, List.append_toArray, List.nil_append, List.cons_append]
  gi_wp2
  try rw [← HW0.out]
  try rw [← HW1.out]
  try rw [← HW2.out]
  try rw [← HW3.out]
  try rw [← HW4.out]
  rw [← HBE0.out]
  simp only [Nat.add_assoc, Nat.reduceAdd]
  refine ⟨trivial, hcall.mono ?_⟩
  clear hcall HW0 HW1 HW2 HW3 HW4
  rintro e9 w6 ⟨rfl, hL6, hb6⟩
  have hBX : Boxes b0 w6 (.slice none 0 0) 0 0 (.slice none 0 0) 0 := ⟨(hb6.block _ (by have := HN0.out; omega)).trans HE.out.1, (hb6.block _ (by have := HN0.out; omega)).trans HE.out.2.1, (hb6.block _ (by have := HN0.out; omega)).trans HE.out.2.2.1, (hb6.block _ (by have := HN0.out; omega)).trans HE.out.2.2.2.1, (hb6.block _ HN0.out.2).trans HE.out.2.2.2.2⟩
  have HB6 := Lib.hid (Below.step HB5.out hb6)
  have HBX := Lib.hid hBX
  have HL6 := Lib.hid hL6
  have hNB := HN0.out
  clear hBX hL6 hb6 HBE1 HBE2 HBE3 HBE4
  gi_wp2
  have HSZ := Lib.hid (show w5.heap.size < w6.heap.size from heap_lt HL6.out)
  have HG := Lib.hid hG
  clear hG
  refine range_lines (n := 5) (B := w5.heap.size) (s := s) (by omega) hz rfl rfl HL6.out (At w b0 (w6.heap.size + 2)) (Off w b0 (bl s)) ?hI ?hIx ?h0 (fun line => { tmps := #[.string s, undef, .pointer (some ⟨b0, 0, none⟩), .pointer (some ⟨b0 + 1, 0, none⟩), .pointer (some ⟨b0 + 2, 0, none⟩), .pointer (some ⟨b0 + 3, 0, none⟩), .pointer (some ⟨b0 + 4, 0, none⟩), .string line, undef, undef, undef, undef, undef, undef, .string s, .func (.func 50) #[] #[.pointer (some ⟨w5.heap.size, 0, none⟩)], .string line, undef, undef, undef, undef, undef, undef, undef, undef, undef, undef, undef, undef, undef, undef, undef, undef, undef, undef, undef, undef, undef, undef, undef, undef, undef, undef, undef, undef, undef, undef, undef, undef, undef, undef, undef, undef, undef, undef, undef, undef, undef, undef, undef, undef, undef, undef, undef], defers := [] }) ?assign ?body ?done ?stop
  case hI =>
    rintro d W W' ⟨l, A, c, h1, h2, h3, h4, h5⟩ hT
    have h6 := HSZ.out
    exact ⟨l, A, c, h1, h2, h3.turn hT (fun k hk => by omega), h4.turn (hT.mono fun i _ hi => by omega), hT.belowOf h5 h5.size (fun k hk => by omega)⟩
  case hIx =>
    rintro W W' ⟨l, rest, v, n, h1, h2, h3, h4, h5, h6⟩ hT
    have h7 := HSZ.out
    exact ⟨l, rest, v, n, h1, h2, h3, h4, h5.turn hT (fun k hk => by omega), hT.belowOf h6 h6.size (fun k hk => by omega)⟩
  case h0 => exact ⟨[], none, 0, rfl, rfl, HBX.out, .inl ⟨rfl, rfl, rfl⟩, HB6.out⟩
  case assign =>
    intro l line W K hK
    gi_wp2
    exact hK
  case stop =>
    rintro W ⟨l, rest, v, n, h1, h2, h3, h4, h5, h6⟩ hK
    gi_wp2
    refine ⟨by simp, .inl ⟨_, _, rfl, run_takeDeferred hK, ?_⟩⟩
    have h7 := HSZ.out
    have hT := turn_put (F := fun k => k = w6.heap.size) W w6.heap.size (.deferred none) rfl
    refine ⟨_, (h5.turn hT (fun k hk => by omega)).results rfl rfl rfl, .inr (.inr ⟨l, rest, h1, h2, h3, h4, rfl, hT.belowOf h6 h6.size (fun k hk => by have := hNB.1; omega)⟩)⟩
  case done =>
    rintro W ⟨l, A, c, h1, h2, h3, h4, h5⟩ hK
    have h7 := HSZ.out
    have hkok := kok_of h1 (by rw [← h2, bl_size]; exact hz)
    have hml : ∀ k, k ∈ l → k.rules.length ≤ maxLen := fun k hk => by have := (hkok.2 k hk).2.1; unfold maxLen; omega
    have hcall := (callsIn_wide (n := 4)).2 (cCheck_any A c l W (h4.all hml) hkok.1 hkok.2 (HG.out.later h5))
    have HML := Lib.hid hml
    have HB3 := Lib.hid h3
    obtain ⟨y3, _⟩ := one_at h3.c3
    clear hkok hml h3
    gi_wp2
    refine ⟨trivial, hcall.mono ?_⟩
    clear hcall y3
    rintro e9 W2 ⟨rfl, hb⟩
    have HB2 := Lib.hid (HB3.out.turn (F := fun _ => False) (Turn.ofBelow hb) (fun k hk => hk.elim))
    obtain ⟨y0, z0⟩ := one_at HB2.out.c0
    obtain ⟨y1, z1⟩ := one_at HB2.out.c1
    obtain ⟨y2, z2⟩ := one_at HB2.out.c2
    obtain ⟨y3, z3⟩ := one_at HB2.out.c3
    by_cases hc : checkC l = 0
    · have HC := Lib.hid hc
      rw [hc]
      clear hc
      have hKW : (((W2.setCell ⟨b0, 0, none⟩ (.slice A l.length c)).setCell ⟨b0 + 1, 0, none⟩ (.int .i64 0)).setCell ⟨b0 + 2, 0, none⟩ (.int .i64 0)).heap[w6.heap.size]? = _ := (Below.heap_setCell _ _ _ _ (show w6.heap.size ≠ b0 + 2 by omega)).trans ((Below.heap_setCell _ _ _ _ (show w6.heap.size ≠ b0 + 1 by omega)).trans ((Below.heap_setCell _ _ _ _ (show w6.heap.size ≠ b0 by omega)).trans ((hb.block _ (heap_lt hK)).trans hK)))
      have HKW := Lib.hid hKW
      clear hK hKW
      gi_wp2
      refine ⟨by simp, .inl ⟨_, _, rfl, run_takeDeferred HKW.out, ?_⟩⟩
      have hT := turn_put (F := fun k => k = w6.heap.size) (((W2.setCell ⟨b0, 0, none⟩ (.slice A l.length c)).setCell ⟨b0 + 1, 0, none⟩ (.int .i64 0)).setCell ⟨b0 + 2, 0, none⟩ (.int .i64 0)) w6.heap.size (.deferred none) rfl
      have hTA : Turn (fun g => g < w6.heap.size + 2) W ((((W2.setCell ⟨b0, 0, none⟩ (.slice A l.length c)).setCell ⟨b0 + 1, 0, none⟩ (.int .i64 0)).setCell ⟨b0 + 2, 0, none⟩ (.int .i64 0)).putObj w6.heap.size (.deferred none)) := (turn_set3 (Turn.ofBelow hb) (fun k _ _ => by omega) _ _ _).trans hT (fun i _ hi => by omega)
      have hTB : Below w.heap.size w ((((W2.setCell ⟨b0, 0, none⟩ (.slice A l.length c)).setCell ⟨b0 + 1, 0, none⟩ (.int .i64 0)).setCell ⟨b0 + 2, 0, none⟩ (.int .i64 0)).putObj w6.heap.size (.deferred none)) := hT.belowOf ((((Below.step h5 hb).setCell (p := ⟨b0, 0, none⟩) (by have := HN0.out.1; exact this) _).setCell (p := ⟨b0 + 1, 0, none⟩) (by have := HN0.out.1; show _ ≤ b0 + 1; omega) _).setCell (p := ⟨b0 + 2, 0, none⟩) (by have := HN0.out.1; show _ ≤ b0 + 2; omega) _) (by have h8 := (Below.step h5 hb).size; simpa [World.setCell] using h8) (fun k hk => by have := HN0.out.1; omega)
      refine ⟨_, ((HB2.out.set3 (.slice A l.length c) 0 0).turn hT (fun k hk => by omega)).results rfl rfl rfl, .inl ⟨l, A, c, h1, h2.symm, HC.out, rfl, (h4.turn hTA).all HML.out, hTB⟩⟩
    · have HC := Lib.hid hc
      have hKW : (((W2.setCell ⟨b0, 0, none⟩ (.slice none 0 0)).setCell ⟨b0 + 1, 0, none⟩ (.int .i64 0)).setCell ⟨b0 + 2, 0, none⟩ (.int .i64 (checkC l))).heap[w6.heap.size]? = _ := (Below.heap_setCell _ _ _ _ (show w6.heap.size ≠ b0 + 2 by omega)).trans ((Below.heap_setCell _ _ _ _ (show w6.heap.size ≠ b0 + 1 by omega)).trans ((Below.heap_setCell _ _ _ _ (show w6.heap.size ≠ b0 by omega)).trans ((hb.block _ (heap_lt hK)).trans hK)))
      have HKW := Lib.hid hKW
      clear hK hKW
      gi_wp2
      refine ⟨by simp, .inl ⟨_, _, rfl, run_takeDeferred HKW.out, ?_⟩⟩
      have hT := turn_put (F := fun k => k = w6.heap.size) (((W2.setCell ⟨b0, 0, none⟩ (.slice none 0 0)).setCell ⟨b0 + 1, 0, none⟩ (.int .i64 0)).setCell ⟨b0 + 2, 0, none⟩ (.int .i64 (checkC l))) w6.heap.size (.deferred none) rfl
      have hTA : Turn (fun g => g < w6.heap.size + 2) W ((((W2.setCell ⟨b0, 0, none⟩ (.slice none 0 0)).setCell ⟨b0 + 1, 0, none⟩ (.int .i64 0)).setCell ⟨b0 + 2, 0, none⟩ (.int .i64 (checkC l))).putObj w6.heap.size (.deferred none)) := (turn_set3 (Turn.ofBelow hb) (fun k _ _ => by omega) _ _ _).trans hT (fun i _ hi => by omega)
      have hTB : Below w.heap.size w ((((W2.setCell ⟨b0, 0, none⟩ (.slice none 0 0)).setCell ⟨b0 + 1, 0, none⟩ (.int .i64 0)).setCell ⟨b0 + 2, 0, none⟩ (.int .i64 (checkC l))).putObj w6.heap.size (.deferred none)) := hT.belowOf ((((Below.step h5 hb).setCell (p := ⟨b0, 0, none⟩) (by have := HN0.out.1; exact this) _).setCell (p := ⟨b0 + 1, 0, none⟩) (by have := HN0.out.1; show _ ≤ b0 + 1; omega) _).setCell (p := ⟨b0 + 2, 0, none⟩) (by have := HN0.out.1; show _ ≤ b0 + 2; omega) _) (by have h8 := (Below.step h5 hb).size; simpa [World.setCell] using h8) (fun k hk => by have := HN0.out.1; omega)
      refine ⟨_, ((HB2.out.set3 (.slice none 0 0) 0 (checkC l)).turn hT (fun k hk => by omega)).results rfl rfl rfl, .inr (.inl ⟨l, h1, h2.symm, HC.out, rfl, hTB⟩)⟩
  case body =>
    rintro d line rest W hs hl ⟨l, A, c, h1, h2, h3, h4, h5⟩ hW
    obtain ⟨n9, hn9⟩ : ∃ n, n = (lines l).length := ⟨_, rfl⟩
    rw [← hn9] at h3
    have hkok := kok_of h1 (by rw [← h2]; have e := congrArg List.length hs; rw [bl_size, List.length_append] at e; omega)
    have hn : n9 ≤ 1000000000 := by have e := congrArg List.length hs; have e2 := lines_le l; rw [bl_size, List.length_append, h2] at e; omega
    have hzl : line.size ≤ 1000000000 := by have e := congrArg List.length hs; rw [bl_size, List.length_append, List.length_append, bl_size] at e; omega
    have hwr : wrap64 ((n9 : Int) + 1) = (n9 : Int) + 1 := by simp only [wrap64]; omega
    have HML := Lib.hid (show ∀ k, k ∈ l → k.rules.length ≤ maxLen from fun k hk => by have := (hkok.2 k hk).2.1; unfold maxLen; omega)
    have HLL := Lib.hid hkok.1
    have HKK := Lib.hid hkok.2
    have HKN := Lib.hid hn9
    have HS := Lib.hid (And.intro hs hl)
    have H12 := Lib.hid (And.intro h1 h2)
    have HW := Lib.hid hW
    have HZL := Lib.hid hzl
    obtain ⟨W1, hW1⟩ : ∃ v, v = W.setCell ⟨b0 + 4, 0, none⟩ (.int .i64 ((n9 : Int) + 1)) := ⟨_, rfl⟩
    have k4 : ∀ j, j ≠ b0 + 4 → W1.heap[j]? = W.heap[j]? := fun j hj => by rw [hW1]; exact Below.heap_setCell _ _ _ _ hj
    have hx1 : Boxes b0 W1 (.slice none 0 0) 0 0 (.slice A l.length c) ((n9 : Int) + 1) := ⟨(k4 _ (by omega)).trans h3.c0, (k4 _ (by omega)).trans h3.c1, (k4 _ (by omega)).trans h3.c2, (k4 _ (by omega)).trans h3.c3, by rw [hW1]; exact at_set h3.c4 0 _⟩
    have hT1 : Turn (fun g => g = b0 + 4) W W1 := by rw [hW1]; exact (Turn.refl (fun g => g = b0 + 4) W).set ⟨b0 + 4, 0, none⟩ (.inr rfl) _
    have HX1 := Lib.hid hx1
    have HT1 := Lib.hid hT1
    have HR1 := Lib.hid (h4.turn (hT1.mono fun i _ hi => by have := HSZ.out; omega))
    have HB1 := Lib.hid (hT1.belowOf h5 h5.size fun k hk => by omega)
    obtain ⟨y4, z4⟩ := one_at h3.c4
    have HW1 := Lib.hid hW1
    have hcall := CallsIn.inRound (w6.heap.size + 1) ((callsIn_wide (n := 2)).2 (readKind_any line W1 hzl))
    clear hn9 hkok hn hs hl h1 h2 hW hzl hW1 k4 hx1 hT1 h3 h4 h5
    gi_wp2
    try rw [← HW1.out]
    refine ⟨trivial, hcall.mono ?_⟩
    clear hcall y4 z4 HW1
    rintro e9 W2 ⟨nm, ok, rfl, hb2, hy, hno⟩
    cases ok with
    | true =>
      obtain ⟨hwn, x, hx⟩ := hy rfl
      obtain ⟨s1, s2, s3⟩ := step_kind H12.out.1 hwn HS.out.2 hx
      have HST := Lib.hid (And.intro s1 (And.intro s2 s3))
      have hb3 := al W2 (.cells #[.string nm, .slice none 0 0] 42)
      have a3 := heap_alloc_new W2 (.cells #[.string nm, .slice none 0 0] 42)
      have hR3 := (HR1.out.turn (Turn.ofBelow hb2)).turn (Turn.ofBelow hb3)
      obtain ⟨xs, hown, hpush⟩ := Rows.pushK hR3 HML.out
      have hrow := row_of_block a3
      have hl1 := HLL.out
      have hWL := HW.out
      have hT1z := HT1.out.size
      have hb2z := hb2.size
      have hb3z := hb3.size
      obtain ⟨A5, c5, W5, hrun, ho5, hg5, hl5⟩ := run_append_n (P := Tryd.prog) (c2 := 1) (m := 1) 23 elem_k (by omega) hown hrow rfl (by simp [Value.oneCell']) (by unfold maxLen; omega) (by omega) (by omega)
      have hR5 := hpush _ _ _ _ ho5 hg5 hl5
      have hob : ∀ k, (Value.slice A l.length c).ownBlock = some k → w6.heap.size + 2 ≤ k := fun k hk => (hown.lt k hk).1
      have hkeep : ∀ k, k < w6.heap.size + 2 → k ≠ b0 + 4 → W5.heap[k]? = W.heap[k]? := fun k hk hne => (hg5.block k (by omega) (fun e => by have := hob k e.symm; omega)).trans ((hb3.block k (by omega)).trans ((hb2.block k (by omega)).trans (HT1.out.block k (by omega) (by omega))))
      have h7 := HSZ.out
      have hx5 := ((HX1.out.turn (F := fun _ => False) (Turn.ofBelow hb2) (fun k hk => hk.elim)).turn (F := fun _ => False) (Turn.ofBelow hb3) (fun k hk => hk.elim)).turn (F := fun k => (Value.slice A l.length c).ownBlock = some k) (Turn.ofGrown hg5 fun k h _ => h) (fun k hk => by have := hob k hk; omega)
      have hB5 : Below w.heap.size w W5 := (Turn.ofGrown (F := fun k => (Value.slice A l.length c).ownBlock = some k) hg5 fun k h _ => h).belowOf (Below.step (Below.step HB1.out hb2) hb3) (Below.step (Below.step HB1.out hb2) hb3).size (fun k hk => by have := hob k hk; omega)
      have HX6 := Lib.hid (hx5.set (.slice A5 (l.length + 1) c5))
      have HR6 := Lib.hid (hR5.turn (Turn.set (Turn.refl (fun g => g < w6.heap.size + 2) W5) ⟨b0 + 3, 0, none⟩ (.inr (show b0 + 3 < w6.heap.size + 2 by omega)) (.slice A5 (l.length + 1) c5)))
      have HB6 := Lib.hid (hB5.setCell (p := ⟨b0 + 3, 0, none⟩) (show w.heap.size ≤ b0 + 3 by omega) (.slice A5 (l.length + 1) c5))
      have HK6 := Lib.hid (fun k (hk : k = w5.heap.size ∨ k = w6.heap.size ∨ k = w6.heap.size + 1) => (Below.heap_setCell W5 ⟨b0 + 3, 0, none⟩ (.slice A5 (l.length + 1) c5) k (show k ≠ b0 + 3 by omega)).trans (hkeep k (by omega) (by omega)))
      obtain ⟨y3, _⟩ := one_at (HX1.out.turn (F := fun _ => False) (Turn.ofBelow hb2) (fun k hk => hk.elim)).c3
      obtain ⟨y5, z5⟩ := one_at hx5.c3
      clear hno hy hwn hx s1 s2 s3 hb3 a3 hR3 hown hpush hrow hl1 hWL hT1z hb2z hb3z ho5 hg5 hl5 hR5 hob hkeep h7 hx5 hB5 hb2
      gi_wp2_with (gi_at_builtin; refine wpListIn_append_run rfl (.tmp 25) (.tmp 28) 23 23 rfl rfl rfl hrun ?_)
      refine ⟨HK6.out, addK l nm, A5, c5, HST.out.1, by rw [H12.out.2]; exact HST.out.2.1, ?_, HR6.out, HB6.out⟩
      have e1 : (addK l nm).length = l.length + 1 := by simp [addK]
      have e2 : ((lines (addK l nm)).length : Int) = (n9 : Int) + 1 := by rw [HST.out.2.2, HKN.out]; rfl
      rw [e1, e2]
      exact HX6.out
    | false =>
      have HNO := Lib.hid (hno rfl)
      have hcall := CallsIn.inRound (w6.heap.size + 1) ((callsIn_wide (n := 2)).2 (readRule_any line W2 HZL.out (HG.out.later (Below.step HB1.out hb2))))
      have HX2 := Lib.hid (HX1.out.turn (F := fun _ => False) (Turn.ofBelow hb2) (fun k hk => hk.elim))
      have HR2 := Lib.hid (HR1.out.turn (Turn.ofBelow hb2))
      have HB2 := Lib.hid (Below.step HB1.out hb2)
      have HT2 := Lib.hid (HT1.out.step (Turn.ofBelow hb2))
      clear hno hy hb2
      gi_wp2
      refine ⟨trivial, hcall.mono ?_⟩
      clear hcall
      rintro e9 W3 ⟨rel, q0, q1, q2, Aq, nq, cq, ok2, rfl, hb3, hyr, hnr⟩
      have hb4 := al W3 (.cells #[.string rel, .string q0, .string q1, .string q2, .slice Aq nq cq] 47)
      have a4 := heap_alloc_new W3 (.cells #[.string rel, .string q0, .string q1, .string q2, .slice Aq nq cq] 47)
      obtain ⟨W4, hW4⟩ : ∃ v, v = W3.alloc (.cells #[.string rel, .string q0, .string q1, .string q2, .slice Aq nq cq] 47) := ⟨_, rfl⟩
      rw [← hW4] at hb4 a4
      have HW4 := Lib.hid hW4
      clear hW4
      have HX4 := Lib.hid ((HX2.out.turn (F := fun _ => False) (Turn.ofBelow hb3) (fun k hk => hk.elim)).turn (F := fun _ => False) (Turn.ofBelow hb4) (fun k hk => hk.elim))
      have HR4 := Lib.hid ((HR2.out.turn (Turn.ofBelow hb3)).turn (Turn.ofBelow hb4))
      have HB4 := Lib.hid (Below.step (Below.step HB2.out hb3) hb4)
      have HT4 := Lib.hid ((HT2.out.step (Turn.ofBelow hb3)).step (Turn.ofBelow hb4))
      have HK4 := Lib.hid (fun k (hk : k = w5.heap.size ∨ k = w6.heap.size ∨ k = w6.heap.size + 1) => HT4.out.block k (by have := HW.out; have := HSZ.out; omega) (show ¬ k = b0 + 4 by have := HSZ.out; omega))
      have HA4 := Lib.hid a4
      have HYR := Lib.hid hyr
      have HNR := Lib.hid hnr
      have HB34 := Lib.hid hb4
      have HB23 := Lib.hid hb3
      clear a4 hyr hnr hb4 hb3
      obtain ⟨y3, _⟩ := one_at HX4.out.c3
      cases ok2 with
      | false =>
        gi_wp2
        rw [← HW4.out]
        have HX11 := Lib.hid (show Boxes b0 (((W4.setCell ⟨b0, 0, none⟩ (.slice none 0 0)).setCell ⟨b0 + 1, 0, none⟩ (.int .i64 ((n9 : Int) + 1))).setCell ⟨b0 + 2, 0, none⟩ (.int .i64 120)).drew (.slice none 0 0) (((lines l).length + 1 : Nat) : Int) 120 _ _ from by have h := (HX4.out.set3 (.slice none 0 0) ((n9 : Int) + 1) 120).turn (F := fun _ => False) (Turn.refl _ _).drew (fun k hk => hk.elim); rw [← HKN.out]; exact h)
        have HB11 := Lib.hid ((((HB4.out.setCell (p := ⟨b0, 0, none⟩) (show w.heap.size ≤ b0 by omega) (.slice none 0 0)).setCell (p := ⟨b0 + 1, 0, none⟩) (show w.heap.size ≤ b0 + 1 by omega) (.int .i64 ((n9 : Int) + 1))).setCell (p := ⟨b0 + 2, 0, none⟩) (show w.heap.size ≤ b0 + 2 by omega) (.int .i64 120)).drew)
        have HK11 := Lib.hid (fun k (hk : k = w5.heap.size ∨ k = w6.heap.size ∨ k = w6.heap.size + 1) => (Below.heap_setCell _ ⟨b0 + 2, 0, none⟩ (.int .i64 120) k (show k ≠ b0 + 2 by have := HSZ.out; omega)).trans ((Below.heap_setCell _ ⟨b0 + 1, 0, none⟩ (.int .i64 ((n9 : Int) + 1)) k (show k ≠ b0 + 1 by have := HSZ.out; omega)).trans ((Below.heap_setCell W4 ⟨b0, 0, none⟩ (.slice none 0 0) k (show k ≠ b0 by have := HSZ.out; omega)).trans (HK4.out k hk))))
        obtain ⟨y0, z0⟩ := one_at HX4.out.c0
        obtain ⟨y1, z1⟩ := one_at HX4.out.c1
        obtain ⟨y2, z2⟩ := one_at HX4.out.c2
        obtain ⟨y4, _⟩ := one_at HX4.out.c4
        refine region_round (by kernel_rfl) (by kernel_rfl) (by rintro ⟨a, w, h⟩; exact h) ?_
        change wpAny _ _ _ _ _ _ _ (World.drew _)
        refine Held.any_of_G (S := (fun w' : World => w'.cell? ⟨b0 + 4, 0, none⟩ = some (.int .i64 ((n9 : Int) + 1)))) (z := 2) _ _ _ _ ?_
        refine Held.G_take (i := 0) (d := 42) (v := ?_) [0, 2, 3] rfl rfl (by kernel_rfl) (by kernel_rfl) (by kernel_rfl) (by kernel_rfl) (fun _ _ _ h => h) (Or.inl ⟨by rfl, ?_⟩) (one_at HX4.out.c4).1 ?_
        rotate_left 1
        · intro w hSw; have h1 := hSw; clear hSw; (try dsimp only at h1); go_simp <;> with_reducible rfl
        simp only [Act.put, List.setIfInBounds_toArray, List.set_cons_zero, List.set_cons_succ]
        refine Held.G_ready (rs := [1]) (by decide +kernel) (by simp) ?_
        refine Held.G_cons rfl (fun KK hK => ?_) Held.G_nil
        go_simp
        refine hK _ _ ⟨(one_at ((Below.heap_setCell _ ⟨b0, 0, none⟩ (.slice none 0 0) (b0 + 4) (show b0 + 4 ≠ b0 by omega)).trans HX4.out.c4)).1, ?_⟩
        clear hK KK
        refine Held.G_ready (rs := [2]) (by decide +kernel) (by simp) ?_
        refine Held.G_last rfl (fun KK hK => ?_) Held.G_nil
        go_simp
        refine hK _ _ ?_
        clear hK KK
        refine Held.G_ready (rs := [3]) (by decide +kernel) (by simp) ?_
        refine Held.G_cons rfl (fun KK hK => ?_) Held.G_nil
        go_simp
        refine hK _ _ ⟨(one_at ((Below.heap_setCell _ ⟨b0 + 2, 0, none⟩ (.int .i64 120) (b0 + 4) (show b0 + 4 ≠ b0 + 2 by omega)).trans ((Below.heap_setCell _ ⟨b0 + 1, 0, none⟩ (.int .i64 ((n9 : Int) + 1)) (b0 + 4) (show b0 + 4 ≠ b0 + 1 by omega)).trans ((Below.heap_setCell _ ⟨b0, 0, none⟩ (.slice none 0 0) (b0 + 4) (show b0 + 4 ≠ b0 by omega)).trans HX4.out.c4)))).1, ?_⟩
        clear hK KK
        refine Held.G_done (by kernel_rfl) ?_ _
        clear y0 z0 y1 z1 y2 z2 y4
        gi_wp2
        exact ⟨HK11.out, l, bl line ++ bl rest, _, _, H12.out.1, by rw [HS.out.1, H12.out.2], (step_no (l := l) HS.out.2 HNO.out (.inr (HNR.out (by trivial)))).2, (step_no (l := l) HS.out.2 HNO.out (.inr (HNR.out (by trivial)))).1, HX11.out, HB11.out⟩
      | true =>
        rcases HR2.out with ⟨hnil, _, _⟩ | ⟨l0, k, gk, kq, gr, R, cr, rq, hsn, hA, hgr2⟩
        · have hlz : (l.length : Int) = 0 := by rw [hnil]; rfl
          have HNIL := Lib.hid (show l.isEmpty = true by rw [hnil]; rfl)
          clear hnil
          rw [HW4.out] at y3
          gi_wp2
          rw [← HW4.out]
          clear y3 hlz
          have HX11 := Lib.hid (show Boxes b0 (((W4.setCell ⟨b0, 0, none⟩ (.slice none 0 0)).setCell ⟨b0 + 1, 0, none⟩ (.int .i64 ((n9 : Int) + 1))).setCell ⟨b0 + 2, 0, none⟩ (.int .i64 120)).drew (.slice none 0 0) (((lines l).length + 1 : Nat) : Int) 120 _ _ from by have h := (HX4.out.set3 (.slice none 0 0) ((n9 : Int) + 1) 120).turn (F := fun _ => False) (Turn.refl _ _).drew (fun k hk => hk.elim); rw [← HKN.out]; exact h)
          have HB11 := Lib.hid ((((HB4.out.setCell (p := ⟨b0, 0, none⟩) (show w.heap.size ≤ b0 by omega) (.slice none 0 0)).setCell (p := ⟨b0 + 1, 0, none⟩) (show w.heap.size ≤ b0 + 1 by omega) (.int .i64 ((n9 : Int) + 1))).setCell (p := ⟨b0 + 2, 0, none⟩) (show w.heap.size ≤ b0 + 2 by omega) (.int .i64 120)).drew)
          have HK11 := Lib.hid (fun k (hk : k = w5.heap.size ∨ k = w6.heap.size ∨ k = w6.heap.size + 1) => (Below.heap_setCell _ ⟨b0 + 2, 0, none⟩ (.int .i64 120) k (show k ≠ b0 + 2 by have := HSZ.out; omega)).trans ((Below.heap_setCell _ ⟨b0 + 1, 0, none⟩ (.int .i64 ((n9 : Int) + 1)) k (show k ≠ b0 + 1 by have := HSZ.out; omega)).trans ((Below.heap_setCell W4 ⟨b0, 0, none⟩ (.slice none 0 0) k (show k ≠ b0 by have := HSZ.out; omega)).trans (HK4.out k hk))))
          obtain ⟨y0, z0⟩ := one_at HX4.out.c0
          obtain ⟨y1, z1⟩ := one_at HX4.out.c1
          obtain ⟨y2, z2⟩ := one_at HX4.out.c2
          obtain ⟨y4, _⟩ := one_at HX4.out.c4
          refine region_round (by kernel_rfl) (by kernel_rfl) (by rintro ⟨a, w, h⟩; exact h) ?_
          change wpAny _ _ _ _ _ _ _ (World.drew _)
          refine Held.any_of_G (S := (fun w' : World => w'.cell? ⟨b0 + 4, 0, none⟩ = some (.int .i64 ((n9 : Int) + 1)))) (z := 2) _ _ _ _ ?_
          refine Held.G_take (i := 0) (d := 42) (v := ?_) [0, 2, 3] rfl rfl (by kernel_rfl) (by kernel_rfl) (by kernel_rfl) (by kernel_rfl) (fun _ _ _ h => h) (Or.inl ⟨by rfl, ?_⟩) (one_at HX4.out.c4).1 ?_
          rotate_left 1
          · intro w hSw; have h1 := hSw; clear hSw; (try dsimp only at h1); go_simp <;> with_reducible rfl
          simp only [Act.put, List.setIfInBounds_toArray, List.set_cons_zero, List.set_cons_succ]
          refine Held.G_ready (rs := [1]) (by decide +kernel) (by simp) ?_
          refine Held.G_cons rfl (fun KK hK => ?_) Held.G_nil
          go_simp
          refine hK _ _ ⟨(one_at ((Below.heap_setCell _ ⟨b0, 0, none⟩ (.slice none 0 0) (b0 + 4) (show b0 + 4 ≠ b0 by omega)).trans HX4.out.c4)).1, ?_⟩
          clear hK KK
          refine Held.G_ready (rs := [2]) (by decide +kernel) (by simp) ?_
          refine Held.G_last rfl (fun KK hK => ?_) Held.G_nil
          go_simp
          refine hK _ _ ?_
          clear hK KK
          refine Held.G_ready (rs := [3]) (by decide +kernel) (by simp) ?_
          refine Held.G_cons rfl (fun KK hK => ?_) Held.G_nil
          go_simp
          refine hK _ _ ⟨(one_at ((Below.heap_setCell _ ⟨b0 + 2, 0, none⟩ (.int .i64 120) (b0 + 4) (show b0 + 4 ≠ b0 + 2 by omega)).trans ((Below.heap_setCell _ ⟨b0 + 1, 0, none⟩ (.int .i64 ((n9 : Int) + 1)) (b0 + 4) (show b0 + 4 ≠ b0 + 1 by omega)).trans ((Below.heap_setCell _ ⟨b0, 0, none⟩ (.slice none 0 0) (b0 + 4) (show b0 + 4 ≠ b0 by omega)).trans HX4.out.c4)))).1, ?_⟩
          clear hK KK
          refine Held.G_done (by kernel_rfl) ?_ _
          clear y0 z0 y1 z1 y2 z2 y4
          gi_wp2
          exact ⟨HK11.out, l, bl line ++ bl rest, _, _, H12.out.1, by rw [HS.out.1, H12.out.2], (step_no (l := l) HS.out.2 HNO.out (.inl HNIL.out)).2, (step_no (l := l) HS.out.2 HNO.out (.inl HNIL.out)).1, HX11.out, HB11.out⟩
        · subst hA
          have hgz := hgr2.at
          have hgn := hgr2.cells
          obtain ⟨e, hqe, hrc, x, hx⟩ := HYR.out (by trivial)
          have hgr4 := (hgr2.turn (Turn.ofBelow HB23.out)).turn (Turn.ofBelow HB34.out)
          have hb6 : Below W4.heap.size W4 (W4.alloc (.cells #[.string rel, .string q0, .string q1, .string q2, .slice Aq nq cq] 47)).drew := (al W4 _).drew
          have a6 : (W4.alloc (.cells #[.string rel, .string q0, .string q1, .string q2, .slice Aq nq cq] 47)).drew.heap[W4.heap.size]? = some (.cells #[.string rel, .string q0, .string q1, .string q2, .slice Aq nq cq] 47 (0, 0)) := heap_alloc_new W4 _
          have hgr6 := hgr4.turn (Turn.ofBelow hb6)
          have hgb : ∀ g, gr = some g → w6.heap.size + 2 ≤ g ∧ g < W2.heap.size := fun g hg => hgr2.own2.own.lt g (by rw [← hgr2.own2.blk]; exact hg)
          have hWL := HW.out
          have hT2z := HT2.out.size
          have hz23 := HB23.out.size
          have hz34 := HB34.out.size
          have hz6 := hb6.size
          have hqx : LayRF (S2 (w6.heap.size + 2) gk gr (W4.alloc (.cells #[.string rel, .string q0, .string q1, .string q2, .slice Aq nq cq] 47)).drew) ⟨rel, e⟩ [.string rel, .string q0, .string q1, .string q2, .slice Aq nq cq] := ⟨_, rfl, ((hqe.imp fun _ _ s => st_later s HB34.out).imp fun _ _ s => st_later s hb6).imp fun a vs s => ⟨by have := s.1; omega, by have := s.1; omega, fun eg => by have := hgb _ eg; have := s.1; omega, s.2.2⟩⟩
          have hmem : k ∈ l := by rw [hsn]; simp
          have hkl := (HKK.out k hmem).2.1
          obtain ⟨R5, c5, W5, hrun, ho5, hg5, hl5⟩ := run_append_n (P := Tryd.prog) (c2 := 1) (m := 1) 40 elem_r (by omega) hgr6.own2.own (row_of_block a6) rfl hqx.one (by unfold maxLen; omega) (by omega) (by omega)
          rw [← hgr6.own2.blk] at hg5 hl5
          obtain ⟨kq', gr', rq', hpr⟩ := hgr6.pushR hqx ho5 hg5 hl5
          have h7 := HSZ.out
          have hk5 : ∀ j, j < W4.heap.size → gr ≠ some j → W5.heap[j]? = W4.heap[j]? := fun j hj hn => (hg5.block j (by omega) (fun e => hn e.symm)).trans (hb6.block j hj)
          have hgne : gr ≠ some gk := hgr2.own2.ne
          have hkeep : ∀ j, j < w6.heap.size + 2 → j ≠ b0 + 4 → (W5.setCell ⟨gk, l0.length * 2 + 1, none⟩ (.slice R5 (k.rules.length + 1) c5)).heap[j]? = W.heap[j]? := fun j hj hn => (Below.heap_setCell _ _ _ _ (show j ≠ gk by omega)).trans ((hk5 j (by omega) (fun e => by have := hgb _ e; omega)).trans (HT4.out.block j (by omega) hn))
          have HK13 := Lib.hid (fun j (hj : j = w5.heap.size ∨ j = w6.heap.size ∨ j = w6.heap.size + 1) => hkeep j (by omega) (by omega))
          have hTF : Turn (fun j => gr = some j ∨ j = gk) W4 (W5.setCell ⟨gk, l0.length * 2 + 1, none⟩ (.slice R5 (k.rules.length + 1) c5)) := ((Turn.ofBelow hb6).trans (Turn.ofGrown (F := fun j => gr = some j ∨ j = gk) hg5 fun j h _ => .inl h) fun _ _ h => h).set _ (.inr (.inr rfl)) _
          have hF4 : ∀ j, (gr = some j ∨ j = gk) → w6.heap.size + 2 ≤ j := fun j hj => by rcases hj with hj | hj; exact (hgb _ hj).1; omega
          obtain ⟨s1, s2, s3⟩ := step_rule (k := k) (by rw [← hsn]; exact H12.out.1) hrc HS.out.2 hx
          have HAT := Lib.hid (show At w b0 (w6.heap.size + 2) (d ++ bl line) (W5.setCell ⟨gk, l0.length * 2 + 1, none⟩ (.slice R5 (k.rules.length + 1) c5)) from by
            refine ⟨_, _, c, s1, by rw [H12.out.2, hsn]; exact s2, ?_, .inr ⟨l0, _, gk, kq', gr', R5, c5, rq', rfl, rfl, hpr⟩, hTF.belowOf HB4.out HB4.out.size (fun j hj => by have := hF4 j hj; have := HN0.out; omega)⟩
            have h := HX4.out.turn hTF (fun j hj => by have := hF4 j hj; omega)
            have e1 : (l0 ++ [(⟨k.name, k.rules ++ [⟨rel, e⟩]⟩ : Kd)]).length = l.length := by rw [hsn]; simp
            have e2 : ((lines (l0 ++ [(⟨k.name, k.rules ++ [⟨rel, e⟩]⟩ : Kd)])).length : Int) = (n9 : Int) + 1 := by rw [s3, ← hsn, HKN.out]; rfl
            rw [e1, e2]
            exact h)
          have hcf := hgr4.cells
          have hgz4 := hgr4.at
          obtain ⟨b10, hb10⟩ : ∃ v, v = W3.heap.size := ⟨_, rfl⟩
          have HB10 := Lib.hid hb10
          have ha10 : W4.heap[b10]? = some (.cells #[.string rel, .string q0, .string q1, .string q2, .slice Aq nq cq] 47 (0, 0)) := by rw [hb10]; exact HA4.out
          have h10 : b10 < W4.heap.size := heap_lt ha10
          have h10g : gr ≠ some b10 := fun e => by have := (hgb _ e).2; omega
          have hmk : ∀ W' : World, W'.heap[b0 + 3]? = W4.heap[b0 + 3]? → W'.heap[b10]? = W4.heap[b10]? → W'.heap[gk]? = W4.heap[gk]? → (W'.cell? ⟨b0 + 3, 0, none⟩ = some (.slice (some ⟨gk, 0, none⟩) l.length c) ∧ W'.cell? ⟨b10, 0, none⟩ = some (.string rel) ∧ W'.cell? ⟨b10, 1, none⟩ = some (.string q0) ∧ W'.cell? ⟨b10, 2, none⟩ = some (.string q1) ∧ W'.cell? ⟨b10, 3, none⟩ = some (.string q2) ∧ W'.cell? ⟨b10, 4, none⟩ = some (.slice Aq nq cq) ∧ W'.cell? ⟨gk, l0.length * 2 + 1, none⟩ = some (.slice R k.rules.length cr)) := fun W' e3 e10 eg => by
            obtain ⟨p0, p1, p2, p3, p4⟩ := five_at (e10.trans ha10)
            exact ⟨(one_at (e3.trans HX4.out.c3)).1, p0, p1, p2, p3, p4, (World.cell?_of_block (a := ⟨gk, l0.length * 2 + 1, none⟩) eg).trans hcf.2.1⟩
          have HS4 := Lib.hid (hmk W4.drew rfl rfl rfl)
          have HS6 := Lib.hid (hmk (W4.alloc (.cells #[.string rel, .string q0, .string q1, .string q2, .slice Aq nq cq] 47)).drew (hb6.block _ (by omega)) (hb6.block _ h10) (hb6.block _ hgz4.2.1))
          have HS5 := Lib.hid (hmk W5 (hk5 _ (by omega) (fun e => by have := hgb _ e; omega)) (hk5 _ h10 h10g) (hk5 _ hgz4.2.1 hgne))
          have z5 : W5.frozen? ⟨gk, l0.length * 2 + 1, none⟩ = false := (World.frozen?_of_block (a := ⟨gk, l0.length * 2 + 1, none⟩) (hk5 _ hgz4.2.1 hgne)).trans hcf.2.2
          have hlen : l.length = l0.length + 1 := by rw [hsn]; simp
          have hlz : ¬ (l.length : Int) = 0 := by omega
          have hlw : wrap64 ((l.length : Int) - 1) = (l0.length : Int) := by have := HLL.out; simp only [wrap64]; omega
          have hi1 : (l0.length : Int) < (l.length : Int) := by omega
          clear hgz hgn hqe hrc hx hgr4 hb6 a6 hgr6 hgb hWL hT2z hz23 hz34 hz6 hqx hmem hkl ho5 hg5 hl5 hpr h7 hk5 hgne hkeep hTF hF4 s1 s2 s3 hcf hgz4 hb10 ha10 h10 h10g hmk hlen hsn hgr2
          rw [HW4.out] at y3
          gi_wp2
          rw [← HW4.out]
          rw [← HB10.out]
          rw [hlw]
          clear y3 hlz hlw
          have y3 := hi1
          obtain ⟨_, _, _, _, _, _, y5⟩ := HS5.out
          refine region_round (by kernel_rfl) (by kernel_rfl) (by rintro ⟨a, w, h⟩; exact h) ?_
          change wpAny _ _ _ _ _ _ _ (World.drew _)
          refine Held.any_of_G (S := (fun w' : World => w'.cell? ⟨b0 + 3, 0, none⟩ = some (.slice (some ⟨gk, 0, none⟩) l.length c) ∧ w'.cell? ⟨b10, 0, none⟩ = some (.string rel) ∧ w'.cell? ⟨b10, 1, none⟩ = some (.string q0) ∧ w'.cell? ⟨b10, 2, none⟩ = some (.string q1) ∧ w'.cell? ⟨b10, 3, none⟩ = some (.string q2) ∧ w'.cell? ⟨b10, 4, none⟩ = some (.slice Aq nq cq) ∧ w'.cell? ⟨gk, l0.length * 2 + 1, none⟩ = some (.slice R k.rules.length cr))) (z := 12) _ _ _ _ ?_
          refine Held.G_take (i := 0) (d := 46) (v := ?_) [0, 10, 11, 12] rfl rfl (by kernel_rfl) (by kernel_rfl) (by kernel_rfl) (by kernel_rfl) (fun _ _ _ h => h) (Or.inl ⟨by rfl, ?_⟩) HS4.out ?_
          rotate_left 1
          · intro w hSw; obtain ⟨d0, d1, d2, d3, d4, d5, d6⟩ := hSw; go_simp <;> with_reducible rfl
          simp only [Act.put, List.setIfInBounds_toArray, List.set_cons_zero, List.set_cons_succ]
          refine Held.G_take (i := 1) (d := 47) (v := ?_) [1, 10, 11, 12] rfl rfl (by kernel_rfl) (by kernel_rfl) (by kernel_rfl) (by kernel_rfl) (fun _ _ _ h => h) (Or.inl ⟨by rfl, ?_⟩) HS4.out ?_
          rotate_left 1
          · intro w hSw; clear hSw; go_simp <;> with_reducible rfl
          simp only [Act.put, List.setIfInBounds_toArray, List.set_cons_zero, List.set_cons_succ]
          refine Held.G_take (i := 2) (d := 48) (v := ?_) [2, 4, 5, 6, 9, 10, 11, 12] rfl rfl (by kernel_rfl) (by kernel_rfl) (by kernel_rfl) (by kernel_rfl) (fun _ _ _ h => h) (Or.inl ⟨by rfl, ?_⟩) HS4.out ?_
          rotate_left 1
          · intro w hSw; obtain ⟨d0, d1, d2, d3, d4, d5, d6⟩ := hSw; go_simp <;> with_reducible rfl
          simp only [Act.put, List.setIfInBounds_toArray, List.set_cons_zero, List.set_cons_succ]
          refine Held.G_take (i := 3) (d := 49) (v := ?_) [3, 4, 5, 6, 9, 10, 11, 12] rfl rfl (by kernel_rfl) (by kernel_rfl) (by kernel_rfl) (by kernel_rfl) (fun _ _ _ h => h) (Or.inl ⟨by rfl, ?_⟩) HS4.out ?_
          rotate_left 1
          · intro w hSw; clear hSw; go_simp <;> with_reducible rfl
          simp only [Act.put, List.setIfInBounds_toArray, List.set_cons_zero, List.set_cons_succ]
          refine Held.G_take (i := 4) (d := 50) (v := ?_) [4, 5, 6, 9, 10, 11, 12] rfl rfl (by kernel_rfl) (by kernel_rfl) (by kernel_rfl) (by kernel_rfl) (fun _ _ _ h => h) (Or.inl ⟨by rfl, ?_⟩) HS4.out ?_
          rotate_left 1
          · intro w hSw; clear hSw; go_simp <;> with_reducible rfl
          simp only [Act.put, List.setIfInBounds_toArray, List.set_cons_zero, List.set_cons_succ]
          refine Held.G_take (i := 5) (d := 51) (v := ?_) [5, 6, 9, 10, 11, 12] rfl rfl (by kernel_rfl) (by kernel_rfl) (by kernel_rfl) (by kernel_rfl) (fun _ _ _ h => h) (Or.inl ⟨by rfl, ?_⟩) HS4.out ?_
          rotate_left 1
          · intro w hSw; clear hSw; go_simp <;> with_reducible rfl
          simp only [Act.put, List.setIfInBounds_toArray, List.set_cons_zero, List.set_cons_succ]
          refine Held.G_take (i := 6) (d := 52) (v := ?_) [6, 9, 10, 11, 12] rfl rfl (by kernel_rfl) (by kernel_rfl) (by kernel_rfl) (by kernel_rfl) (fun _ _ _ h => h) (Or.inl ⟨by rfl, ?_⟩) HS4.out ?_
          rotate_left 1
          · intro w hSw; obtain ⟨d0, d1, d2, d3, d4, d5, d6⟩ := hSw; go_simp <;> with_reducible rfl
          simp only [Act.put, List.setIfInBounds_toArray, List.set_cons_zero, List.set_cons_succ]
          refine Held.G_take (i := 7) (d := 53) (v := ?_) [7, 8, 9, 10, 11, 12] rfl rfl (by kernel_rfl) (by kernel_rfl) (by kernel_rfl) (by kernel_rfl) (fun _ _ _ h => h) (Or.inl ⟨by rfl, ?_⟩) HS4.out ?_
          rotate_left 1
          · intro w hSw; obtain ⟨d0, d1, d2, d3, d4, d5, d6⟩ := hSw; go_simp <;> with_reducible rfl
          simp only [Act.put, List.setIfInBounds_toArray, List.set_cons_zero, List.set_cons_succ]
          refine Held.G_ready (rs := [8]) (by decide +kernel) (by simp) ?_
          refine Held.G_cons rfl (fun KK hK => ?_) Held.G_nil
          go_simp
          refine hK _ _ ⟨HS6.out, ?_⟩
          clear hK KK
          refine Held.G_ready (rs := [9]) (by decide +kernel) (by simp) ?_
          refine Held.G_cons rfl (fun KK hK => ?_) Held.G_nil
          rw [if_pos (by rfl)]
          refine wp_append_run (.tmp 52) (.tmp 54) 40 40 rfl rfl rfl hrun ?_
          refine hK _ _ ?_
          clear hK KK
          simp only [Act.put, List.setIfInBounds_toArray]
          refine ⟨HS5.out, ?_⟩
          refine Held.G_take (i := 10) (d := 56) (v := ?_) [10, 11, 12] rfl rfl (by kernel_rfl) (by kernel_rfl) (by kernel_rfl) (by kernel_rfl) (fun _ _ _ h => h) (Or.inl ⟨by rfl, ?_⟩) HS5.out ?_
          rotate_left 1
          · intro w hSw; clear hSw; go_simp <;> with_reducible rfl
          simp only [Act.put]
          refine Held.G_take (i := 11) (d := 57) (v := ?_) [11, 12] rfl rfl (by kernel_rfl) (by kernel_rfl) (by kernel_rfl) (by kernel_rfl) (fun _ _ _ h => h) (Or.inl ⟨by rfl, ?_⟩) HS5.out ?_
          rotate_left 1
          · intro w hSw; clear hSw; go_simp <;> with_reducible rfl
          simp only [Act.put]
          refine Held.G_ready (rs := [12]) (by decide +kernel) (by simp) ?_
          refine Held.G_last rfl (fun KK hK => ?_) Held.G_nil
          go_simp
          refine hK _ _ ?_
          clear hK KK
          refine Held.G_done (by kernel_rfl) ?_ _
          clear y3 z5
          gi_wp2
          exact ⟨HK13.out, HAT.out⟩
end Go.Proofs.YtkmnbdomikpakaaDoor.RuleReadC
