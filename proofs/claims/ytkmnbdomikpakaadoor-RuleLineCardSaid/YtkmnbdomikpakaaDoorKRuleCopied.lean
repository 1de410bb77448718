/- Rows of parts that grow; the code's copied: an expression whose rows of parts are all new. -/
import Derived.Test.YtkmnbdomikpakaaDoorKRuleAlike
import Derived.Test.YtkmnbdomikpakaaDoorKRuleFind
import Derived.Test.YtkmnbdomikpakaaDoorKRuleRow
import Derived.Test.YtkmnbdomikpakaaDoorKTurnB
namespace Go.Proofs.YtkmnbdomikpakaaDoor.RuleCopied
open Go.RowKit Base KeyPlain TuplePlain TupleRef RulePlain RuleMem RuleRec RuleAlike RuleFind RuleRow TurnB

theorem slim_ps {op nm fo : ByteArray} {ps : List Ex} (h : (Ex.mk op nm fo ps).slim = true) : ps.length ≤ 1000000 ∧ ∀ e, e ∈ ps → e.slim = true := by
  simp only [Ex.slim, Bool.and_eq_true, decide_eq_true_eq] at h
  exact ⟨h.1.2, fun e he => slimL_mem he h.2⟩
theorem sees_grown {w w' : World} {g : Option Nat} {B : Nat} {a : Addr} {vs : List Value} (h : Sees w B a vs) (hB : B ≤ w.heap.size) (hg : w.grownBy w' g) (hn : g ≠ some a.block) : Sees w' w'.heap.size a vs := by
  have hlt := Nat.lt_of_lt_of_le h.1 hB
  refine ⟨Nat.lt_of_lt_of_le hlt hg.size, fun j v hv => ?_⟩
  have e := hg.block a.block hlt (fun e => hn e.symm)
  exact (World.cell?_of_block (by rw [blk_add]; exact e)).trans (h.2 j v hv)
theorem st_later {lo : Nat} {g : Option Nat} {w w' : World} {a : Addr} {vs : List Value} (h : St lo g w a vs) (hb : Below w.heap.size w w') : St lo g w' a vs := ⟨h.1, h.2.1, see_later hb _ _ h.2.2⟩
theorem st_grow {lo : Nat} {g g' : Option Nat} {w w' : World} {a : Addr} {vs : List Value} (h : St lo g w a vs) (hg : w.grownBy w' g) (hl : g' = g ∨ g' = some w.heap.size) : St lo g' w' a vs := by
  refine ⟨h.1, ?_, sees_grown h.2.2 (Nat.le_refl _) hg h.2.1⟩
  rcases hl with rfl | rfl
  · exact h.2.1
  · intro e
    injection e with e
    have := h.2.2.1
    omega
/-- what is new lies in no elder block -/
theorem st_new {lo lo' : Nat} {g : Option Nat} {w : World} {a : Addr} {vs : List Value} (h : St lo' none w a vs) (h1 : lo ≤ lo') (h2 : ∀ k, g = some k → k < lo') : St lo g w a vs :=
  ⟨Nat.le_trans h1 h.1, fun e => by have := h2 _ e; have := h.1; omega, h.2.2⟩
/-- the first k parts lie in an own row -/
structure Parts (lo : Nat) (w : World) (A : Option Addr) (k c : Nat) (ps : List Ex) (qf : Nat → List Value) : Prop where
  own : w.ownsRow lo 34 4 (.slice A k c) k ((List.range k).flatMap qf)
  len : ∀ i, i < k → (qf i).length = 4
  lay : ∀ i (hi : i < ps.length), i < k → LayF (St lo (Value.slice A k c).ownBlock w) ps[i] (qf i)
theorem Parts.nil (lo : Nat) (w : World) (ps : List Ex) : Parts lo w none 0 0 ps (fun _ => []) := ⟨World.ownsRow_nil w lo _ 4, fun _ h => absurd h (by omega), fun _ _ h => absurd h (by omega)⟩
theorem Parts.later {lo : Nat} {w w' : World} {A : Option Addr} {k c : Nat} {ps : List Ex} {qf : Nat → List Value} (h : Parts lo w A k c ps qf) (hb : Below w.heap.size w w') : Parts lo w' A k c ps qf :=
  ⟨World.ownsRow.kept h.own (row := none) ⟨hb.os, hb.tape, hb.output, hb.size, fun k hk _ => hb.block k hk⟩ (by cases A with
    | none => exact .inl rfl
    | some a => exact .inr (by simp [Value.ownBlock])), h.len, fun i hi hk => (h.lay i hi hk).imp fun _ _ q => st_later q hb⟩
theorem Parts.push {lo : Nat} {w w' : World} {A A' : Option Addr} {k c c' : Nat} {ps : List Ex} {qf : Nat → List Value} (h : Parts lo w A k c ps qf) {q : List Value} (hk : k < ps.length) (hq : LayF (St lo (Value.slice A k c).ownBlock w) ps[k] q)
    (ho : w'.ownsRow lo 34 4 (.slice A' (k + 1) c') (k + 1) ((List.range k).flatMap qf ++ q)) (hg : w.grownBy w' (Value.slice A k c).ownBlock)
    (hl : (Value.slice A' (k + 1) c').ownBlock = (Value.slice A k c).ownBlock ∨ (Value.slice A' (k + 1) c').ownBlock = some w.heap.size) : Parts lo w' A' (k + 1) c' ps (fun i => if i = k then q else qf i) := by
  have e : (List.range (k + 1)).flatMap (fun i => if i = k then q else qf i) = (List.range k).flatMap qf ++ q := by
    rw [List.range_succ, List.flatMap_append]
    congr 1
    · rw [List.flatMap_def, List.flatMap_def]
      congr 1
      refine List.map_congr_left fun i hi => ?_
      have := List.mem_range.1 hi
      rw [if_neg (by omega)]
    · simp
  refine ⟨by rw [e]; exact ho, fun i hi => ?_, fun i hi hk' => ?_⟩
  · by_cases h' : i = k
    · rw [if_pos h']; exact hq.len
    · rw [if_neg h']; exact h.len i (by omega)
  · by_cases h' : i = k
    · subst h'
      rw [if_pos rfl]
      exact hq.imp fun _ _ s => st_grow s hg hl
    · rw [if_neg h']
      exact (h.lay i hi (by omega)).imp fun _ _ s => st_grow s hg hl
/-- the whole row: an expression of these parts -/
theorem Parts.all {lo : Nat} {w : World} {A : Option Addr} {c : Nat} {ps : List Ex} {qf : Nat → List Value} (h : Parts lo w A ps.length c ps qf) (hl : ps.length ≤ maxLen) (op nm fo : ByteArray) :
    LayF (St lo none w) (.mk op nm fo ps) [.string op, .string nm, .string fo, .slice A ps.length c] := by
  refine .mk op nm fo ps A c qf hl (fun i hi => ?_) (fun i hi => (h.lay i hi hi).imp fun _ _ s => ⟨s.1, by simp, s.2.2⟩)
  obtain ⟨g, cur, rfl, h1, h2, _, _, _, h3⟩ := own_sees (by omega) h.len h.own
  exact ⟨_, rfl, by rw [blk_add]; exact h1, by simp, h3 i hi⟩
/-- stored elsewhere -/
theorem st_set {lo : Nat} {w : World} {a p : Addr} {vs : List Value} {v : Value} (h : St lo none w a vs) (hp : p.block < lo) : St lo none (w.setCell p v) a vs := by
  have hz : (w.setCell p v).heap.size = w.heap.size := by simp [World.setCell]
  have hb : (w.setCell p v).heap[a.block]? = w.heap[a.block]? := Below.heap_setCell _ _ _ _ (by have := h.1; omega)
  refine ⟨h.1, by simp, by rw [hz]; exact h.2.2.1, fun j u hu => ?_⟩
  exact (World.cell?_of_block (by rw [blk_add]; exact hb)).trans (h.2.2.2 j u hu)
theorem lay_form {S : Addr → List Value → Prop} {e : Ex} {q : List Value} (h : LayF S e q) : ∃ A c, q = [.string e.op, .string e.nm, .string e.fo, .slice A e.ps.length c] := by
  cases h with
  | mk op nm fo ps A c q hl h1 h2 => exact ⟨A, c, rfl⟩
/-- what copied hands back -/
def CopyPost (e : Ex) (w : World) (r : Ending) (w' : World) : Prop := ∃ q, r = .returned (.agg q.toArray) ∧ LayF (St w.heap.size none w') e q ∧ Below w.heap.size w w'
set_option maxRecDepth 100000 in
set_option maxHeartbeats 12800000 in
theorem copied_step (N : Nat) (HI0 : ∀ (e : Ex) (q : List Value) (w : World), e.size ≤ N → e.slim = true → Lay w w.heap.size e q → Calls Tryd.prog 37 #[.agg q.toArray] w (CopyPost e w))
    (op nm fo : ByteArray) (ps : List Ex) : ∀ (q : List Value) (w : World), (Ex.mk op nm fo ps).size ≤ N + 1 → (Ex.mk op nm fo ps).slim = true → Lay w w.heap.size (.mk op nm fo ps) q → Calls Tryd.prog 37 #[.agg q.toArray] w (CopyPost (.mk op nm fo ps) w) := by
  intro q w hN hsl hL
  obtain ⟨A, c, rfl, hs, hl⟩ := hL.open
  simp only [Ex.op, Ex.nm, Ex.fo, Ex.ps] at hl hs hL ⊢
  have HZ := Lib.hid (show sizeL ps ≤ N from by simp only [Ex.size] at hN; omega)
  have HSL := Lib.hid (slim_ps hsl)
  have HHI := Lib.hid HI0
  have hl6 := HSL.out.1
  obtain ⟨w1, hw1⟩ : ∃ v, v = w.alloc (.cells #[.string op, .string nm, .string fo, .slice A ps.length c] 34) := ⟨_, rfl⟩
  obtain ⟨b, hbe⟩ : ∃ v, v = w.heap.size := ⟨_, rfl⟩
  have hb1 : Below w.heap.size w w1 := by rw [hw1]; exact al _ _
  have a1 : w1.heap[b]? = some (.cells #[.string op, .string nm, .string fo, .slice A ps.length c] 34 (0, 0)) := by rw [hw1, hbe]; exact heap_alloc_new w _
  have HW := Lib.hid hw1
  have HBE := Lib.hid hbe
  clear hw1 hbe
  obtain ⟨w2, hw12⟩ : ∃ v, v = w1.alloc (.cells #[.string ⟨#[]⟩, .string ⟨#[]⟩, .string ⟨#[]⟩, .slice none 0 0] 34) := ⟨_, rfl⟩
  obtain ⟨b2, hbe2⟩ : ∃ v, v = w1.heap.size := ⟨_, rfl⟩
  have hb12 : Below w1.heap.size w1 w2 := by rw [hw12]; exact al _ _
  have a12 : w2.heap[b2]? = some (.cells #[.string ⟨#[]⟩, .string ⟨#[]⟩, .string ⟨#[]⟩, .slice none 0 0] 34 (0, 0)) := by rw [hw12, hbe2]; exact heap_alloc_new w1 _
  have HW2 := Lib.hid hw12
  have HBE2 := Lib.hid hbe2
  clear hw12 hbe2
  obtain rfl : b2 = b + 1 := by rw [HBE2.out, HW.out, HBE.out]; simp
  have HB2 := Lib.hid (Below.step hb1 hb12)
  have HA1 := Lib.hid ((hb12.block b (heap_lt a1)).trans a1)
  have HA2 := Lib.hid a12
  have HLO := Lib.hid (show b < w2.heap.size ∧ b + 1 < w2.heap.size from ⟨Nat.lt_of_lt_of_le (heap_lt a1) hb12.size, heap_lt a12⟩)
  have HLE := Lib.hid (show w.heap.size ≤ b ∧ w.heap.size ≤ b + 1 from ⟨Nat.le_of_eq HBE.out.symm, by rw [HBE.out]; omega⟩)
  have HS := Lib.hid (fun (w' : World) (hw' : Below w2.heap.size w2 w') => hs.imp (see_later (Below.step HB2.out hw')) fun _ _ _ h => h.later (Below.step HB2.out hw'))
  have HAT := Lib.hid (fun (w' : World) (hw' : Below w2.heap.size w2 w') => four_at ((hw'.block b HLO.out.1).trans HA1.out))
  unfold CopyPost
  clear hb1 hb12 a1 a12 hs hL hN hsl HI0 hl
  go_enter Tryd.func37, Tryd.ntmps37
  go_upto_region 1 with fail
  try rw [← HW.out]
  try rw [← HBE.out]
  clear HW
  try rw [← HW2.out]
  try rw [← HBE2.out]
  clear HW2
  obtain ⟨d0, d1, d2, d3⟩ := HAT.out w2 (Below.refl _ _)
  go_wp2_with fail
  clear d0 d1 d2 d3
  go_loopw [3, 5, 9] (fun y z i wr => z = z ∧ ∃ (k : Nat) (Aw : Option Addr) (cw : Nat) (qf : Nat → List Value), k ≤ ps.length ∧ i = .int .i64 k ∧ y = .slice Aw k cw ∧ Parts w2.heap.size wr Aw k cw ps qf ∧ Below w2.heap.size w2 wr) (fun _ _ i _ => ps.length - (intOf i).toNat)
  case atStart => exact ⟨rfl, 0, none, 0, fun _ => [], by omega, rfl, rfl, Parts.nil _ _ _, Below.refl _ _⟩
  case round =>
    obtain ⟨_, k, Aw, cw, qf, hk, rfl, rfl, hP, hB⟩ := hrel
    have HB := Lib.hid hB
    have HP := Lib.hid hP
    clear hP
    by_cases hlt : k < ps.length
    · obtain ⟨ad, x0, x1, x2, x3, rfl, hbk, y0, y1, y2, y3, hy⟩ := (HS.out wr hB).part k hlt
      have hms := Nat.le_trans (size_mem (List.getElem_mem hlt)) HZ.out
      have hse := HSL.out.2 _ (List.getElem_mem hlt)
      have HPU := Lib.hid (fun (w w' : World) (A' : Option Addr) (c' : Nat) (q : List Value) (h : Parts w2.heap.size w Aw k cw ps qf) (hq : LayF (St w2.heap.size (Value.slice Aw k cw).ownBlock w) ps[k] q) ho hg hl => Parts.push (w' := w') (A' := A') (c' := c') h hlt hq ho hg hl)
      generalize ps[k] = ek at *
      obtain ⟨Z, z, hxe, _⟩ := hy.open
      simp only [List.cons.injEq, and_true] at hxe
      obtain ⟨rfl, rfl, rfl, rfl⟩ := hxe
      obtain ⟨w3, hw13⟩ : ∃ v, v = wr.alloc (.cells #[.string ek.op, .string ek.nm, .string ek.fo, .slice Z ek.ps.length z] 34) := ⟨_, rfl⟩
      obtain ⟨b3, hbe3⟩ : ∃ v, v = wr.heap.size := ⟨_, rfl⟩
      have hb13 : Below wr.heap.size wr w3 := by rw [hw13]; exact al _ _
      have a13 : w3.heap[b3]? = some (.cells #[.string ek.op, .string ek.nm, .string ek.fo, .slice Z ek.ps.length z] 34 (0, 0)) := by rw [hw13, hbe3]; exact heap_alloc_new wr _
      have HW3 := Lib.hid hw13
      have HBE3 := Lib.hid hbe3
      clear hw13 hbe3
      have hcall := HHI.out ek _ w3 hms hse (hy.later hb13)
      have HLT := Lib.hid (Nat.not_le_of_lt hlt)
      have HB3 := Lib.hid (Below.step hB hb13)
      have HP3 := Lib.hid (HP.out.later hb13)
      obtain ⟨p0, p1, p2, p3⟩ := four_at a13
      unfold CopyPost at hcall
      clear hbk hy hms hse hB hb13 a13
      go_upto_region 5 with fail
      try rw [← HW3.out]
      try rw [← HBE3.out]
      clear HW3 y0 y1 y2 y3
      go_wp2_with fail
      (with_reducible refine hcall.mono ?_)
      clear hcall p0 p1 p2 p3
      rintro r' w4 ⟨qk, rfl, hqk, hb⟩
      obtain ⟨Ak, ck, rfl⟩ := lay_form hqk
      have hb4 := al w4 (.cells #[.string ek.op, .string ek.nm, .string ek.fo, .slice Ak ek.ps.length ck] 34)
      have a4 := heap_alloc_new w4 (.cells #[.string ek.op, .string ek.nm, .string ek.fo, .slice Ak ek.ps.length ck] 34)
      have HB5 := Lib.hid (Below.step (Below.step HB3.out hb) hb4)
      have HP5 := Lib.hid ((HP3.out.later hb).later hb4)
      have HQ5 := Lib.hid (hqk.imp fun _ _ s => st_later (st_new (lo := w2.heap.size) (g := (Value.slice Aw k cw).ownBlock) s HB3.out.size fun g h => (HP3.out.own.lt g h).2) hb4)
      have hrow := row_of_block a4
      have hkm := HLT.out
      obtain ⟨A6, c6, w6, hrun, ho6, hg6, hl6'⟩ := run_append_n (P := Tryd.prog) (c2 := 1) (m := 1) 32 elem_e (by omega) HP5.out.own hrow rfl HQ5.out.one (by unfold maxLen; omega) (by omega) HB5.out.size
      have HB6 := Lib.hid (own_below HP5.out.own HB5.out hg6 (Nat.le_refl _) HB5.out.size)
      have HP6 := Lib.hid (HPU.out _ _ _ _ _ HP5.out HQ5.out ho6 hg6 hl6')
      clear hb4 a4 hrow ho6 hg6 hl6' hqk hb hkm
      go_wp2_with (at_builtin; refine wpList_append_run rfl (.tmp 13) (.tmp 16) 32 32 rfl rfl rfl hrun ?_)
      go_roundw
      case rel => exact ⟨trivial, k + 1, A6, c6, _, by have := HLT.out; omega, by go_num, rfl, HP6.out, HB6.out⟩
      case measure => have := HLT.out; simp [intOf]; omega
    · obtain rfl : k = ps.length := by omega
      have hn : ¬ (ps.length : Int) < (ps.length : Int) := by omega
      have h1 := (HB.out.block _ HLO.out.1).trans HA1.out
      have h2 := (HB.out.block _ HLO.out.2).trans HA2.out
      obtain ⟨d0, d1, d2, d3⟩ := four_at h1
      have f3 : wr.frozen? ⟨b, 3, none⟩ = false := by simp [World.frozen?, h1]
      obtain ⟨e0, e1, e2, e3⟩ := four_at h2
      have g0 : wr.frozen? ⟨b + 1, 0, none⟩ = false := by simp [World.frozen?, h2]
      have g1 : wr.frozen? ⟨b + 1, 1, none⟩ = false := by simp [World.frozen?, h2]
      have g2 : wr.frozen? ⟨b + 1, 2, none⟩ = false := by simp [World.frozen?, h2]
      have g3 : wr.frozen? ⟨b + 1, 3, none⟩ = false := by simp [World.frozen?, h2]
      have h3 : (wr.setCell ⟨b, 3, none⟩ (.slice Aw ps.length cw)).heap[b + 1]? = some (.cells #[.string ⟨#[]⟩, .string ⟨#[]⟩, .string ⟨#[]⟩, .slice none 0 0] 34 (0, 0)) := (Below.heap_setCell _ _ _ _ (by simp)).trans h2
      have HA := Lib.hid (set4 h3 (.string op) (.string nm) (.string fo) (.slice Aw ps.length cw))
      have HX := Lib.hid ((((((HP.out.all (by unfold maxLen; omega) op nm fo).imp fun _ _ s => st_set s (p := ⟨b, 3, none⟩) (v := .slice Aw ps.length cw) HLO.out.1).imp fun _ _ s => st_set s (p := ⟨b + 1, 0, none⟩) (v := .string op) HLO.out.2).imp fun _ _ s => st_set s (p := ⟨b + 1, 1, none⟩) (v := .string nm) HLO.out.2).imp fun _ _ s => st_set s (p := ⟨b + 1, 2, none⟩) (v := .string fo) HLO.out.2).imp fun _ _ s => st_set s (p := ⟨b + 1, 3, none⟩) (v := .slice Aw ps.length cw) HLO.out.2)
      have HBX := Lib.hid (below4 ((Below.step HB2.out HB.out).setCell (p := ⟨b, 3, none⟩) HLE.out.1 (.slice Aw ps.length cw)) HLE.out.2 (.string op) (.string nm) (.string fo) (.slice Aw ps.length cw))
      clear h1 h2 h3
      go_wp2_with fail
      refine bodyPost_ret (results_cell_row rfl _ _ (b + 1) 34 _ (0, 0) _ rfl HA.out Tryd.underlying34 rfl (by kernel_rfl)) rfl ?_
      exact ⟨_, rfl, HX.out.imp fun _ _ s => ⟨Nat.le_trans HB2.out.size s.1, s.2⟩, HBX.out⟩
theorem copied_any : ∀ (N : Nat) (e : Ex) (q : List Value) (w : World), e.size ≤ N → e.slim = true → Lay w w.heap.size e q → Calls Tryd.prog 37 #[.agg q.toArray] w (CopyPost e w) := by
  intro N
  induction N with
  | zero => intro e; obtain ⟨op, nm, fo, ps⟩ := e; intro q w hN; simp only [Ex.size] at hN; omega
  | succ N ih => intro e; obtain ⟨op, nm, fo, ps⟩ := e; exact copied_step N ih op nm fo ps
end Go.Proofs.YtkmnbdomikpakaaDoor.RuleCopied
