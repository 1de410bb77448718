/- The code's exprText. -/
import Derived.Test.YtkmnbdomikpakaaDoorKRuleRec
namespace Go.Proofs.YtkmnbdomikpakaaDoor.RuleTextC
open Go.RowKit Base KeyPlain TuplePlain TupleRef RulePlain RuleMem RuleRec

set_option maxRecDepth 100000 in
set_option maxHeartbeats 12800000 in
theorem exprText_step (N : Nat) (HI0 : ∀ (e : Ex) (q : List Value) (w : World), e.size ≤ N → e.text.length ≤ 1000000 → Lay w w.heap.size e q → Calls Tryd.prog 48 #[.agg q.toArray] w fun r w' => r = .returned (.string ⟨e.text.toArray⟩) ∧ Below w.heap.size w w') (op nm fo : ByteArray) (ps : List Ex) : ∀ (q : List Value) (w : World), (Ex.mk op nm fo ps).size ≤ N + 1 → (Ex.mk op nm fo ps).text.length ≤ 1000000 → Lay w w.heap.size (Ex.mk op nm fo ps) q → Calls Tryd.prog 48 #[.agg q.toArray] w fun r w' => r = .returned (.string ⟨(Ex.mk op nm fo ps).text.toArray⟩) ∧ Below w.heap.size w w' := by
  intro q w hN hd hL
  obtain ⟨A, c, rfl, hs, hl⟩ := hL.open
  have HZ := Lib.hid (show sizeL ps ≤ N from by simp only [Ex.size] at hN; omega)
  simp only [Ex.op, Ex.nm, Ex.fo, Ex.ps] at hl hs ⊢
  unfold maxLen at hl
  have HI := Lib.hid HI0
  clear HI0
  have HX := Lib.hid (show (Ex.mk op nm fo ps).text = (if op = kThis then bl kThis else if op = kRel then bl nm else if op = kFrom then 40 :: (bl kFrom ++ 32 :: (bl fo ++ 32 :: (bl nm ++ [41]))) else 40 :: (bl op ++ (textL ps ++ [41]))) from by simp only [Ex.text])
  have HXL := Lib.hid hd
  obtain ⟨w1, hw1⟩ : ∃ v, v = w.alloc (.cells #[.string op, .string nm, .string fo, .slice A ps.length c] 34) := ⟨_, rfl⟩
  obtain ⟨b, hbe⟩ : ∃ v, v = w.heap.size := ⟨_, rfl⟩
  have hb1 : Below w.heap.size w w1 := by rw [hw1]; exact al _ _
  have a1 : w1.heap[b]? = some (.cells #[.string op, .string nm, .string fo, .slice A ps.length c] 34 (0, 0)) := by rw [hw1, hbe]; exact heap_alloc_new w _
  have hl1 : b < w1.heap.size := by rw [hw1, hbe]; simp
  have HC := Lib.hid (fun (w' : World) (hw' : Below w1.heap.size w1 w') => four_at ((hw'.block b hl1).trans a1))
  have HP := Lib.hid (fun (w' : World) (hw' : Below w1.heap.size w1 w') => (hs.imp (see_later (Below.step hb1 hw')) fun _ _ _ h => h.later (Below.step hb1 hw')))
  have HB1 := Lib.hid hb1
  have HW := Lib.hid hw1
  have HBE := Lib.hid hbe
  clear hw1 a1 hl1 hbe hb1 hs hL hN hd
  go_enter Tryd.func48, Tryd.ntmps48
  go_upto_region 1 with fail
  try rw [← HW.out]
  try rw [← HBE.out]
  obtain ⟨d0, d1, d2, d3⟩ := HC.out w1 (Below.refl _ _)
  clear HW
  by_cases n_this : op = kThis
  · have hop := n_this
    clear n_this 
    have q_this : (op.toList == [116, 104, 105, 115]) = true := by rw [tl_this, decide_eq_true hop]
    have q_rel : (op.toList == [114, 101, 108]) = false := by rw [tl_rel, hop]; decide
    have q_from : (op.toList == [102, 114, 111, 109]) = false := by rw [tl_from, hop]; decide
    have HV := Lib.hid (show (Ex.mk op nm fo ps).text = bl kThis from by rw [HX.out, if_pos hop])
    clear hop
    go_wp2_with fail
    go_ret
    exact ⟨ret_str (by rw [HV.out]), HB1.out⟩
  by_cases n_rel : op = kRel
  · have hop := n_rel
    clear n_rel n_this
    have q_this : (op.toList == [116, 104, 105, 115]) = false := by rw [tl_this, hop]; decide
    have q_rel : (op.toList == [114, 101, 108]) = true := by rw [tl_rel, decide_eq_true hop]
    have q_from : (op.toList == [102, 114, 111, 109]) = false := by rw [tl_from, hop]; decide
    have HV := Lib.hid (show (Ex.mk op nm fo ps).text = bl nm from by rw [HX.out, if_neg (by rw [hop]; decide), if_pos hop])
    clear hop
    go_wp2_with fail
    go_ret
    exact ⟨ret_str (by rw [HV.out]), HB1.out⟩
  by_cases n_from : op = kFrom
  · have hop := n_from
    clear n_from n_this n_rel
    have q_this : (op.toList == [116, 104, 105, 115]) = false := by rw [tl_this, hop]; decide
    have q_rel : (op.toList == [114, 101, 108]) = false := by rw [tl_rel, hop]; decide
    have q_from : (op.toList == [102, 114, 111, 109]) = true := by rw [tl_from, decide_eq_true hop]
    have HV := Lib.hid (show (Ex.mk op nm fo ps).text = 40 :: (bl kFrom ++ 32 :: (bl fo ++ 32 :: (bl nm ++ [41]))) from by rw [HX.out, if_neg (by rw [hop]; decide), if_neg (by rw [hop]; decide), if_pos hop])
    have hz := HXL.out
    rw [HV.out] at hz
    simp only [List.length_append, List.length_cons, List.length_nil, bl_size] at hz
    have z1 : fo.size ≤ 1000000 := by omega
    have z2 : nm.size ≤ 1000000 := by omega
    have HT := Lib.hid (show (⟨#[40, 102, 114, 111, 109, 32]⟩ : ByteArray) ++ fo ++ ⟨#[32]⟩ ++ nm ++ ⟨#[41]⟩ = ⟨(Ex.mk op nm fo ps).text.toArray⟩ from ba_of (by rw [HV.out]; simp [bl]))
    clear hop hz
    go_wp2_with fail
    go_ret
    exact ⟨ret_str HT.out, HB1.out⟩
  have q_this : (op.toList == [116, 104, 105, 115]) = false := by rw [tl_this, decide_eq_false n_this]
  have q_rel : (op.toList == [114, 101, 108]) = false := by rw [tl_rel, decide_eq_false n_rel]
  have q_from : (op.toList == [102, 114, 111, 109]) = false := by rw [tl_from, decide_eq_false n_from]
  have HV := Lib.hid (show (Ex.mk op nm fo ps).text = 40 :: (bl op ++ (textL ps ++ [41])) from by rw [HX.out, if_neg n_this, if_neg n_rel, if_neg n_from])
  clear n_this n_rel n_from
  have HZL := Lib.hid (show op.size + (textL ps).length + 2 ≤ 1000000 from by have hz := HXL.out; rw [HV.out] at hz; simp only [List.length_append, List.length_cons, List.length_nil, bl_size] at hz; omega)
  have z1 : op.size ≤ 1000000 := by have := HZL.out; omega
  clear HX
  go_wp2_with fail
  clear d0 d1 d2 d3
  go_loopw [3, 5, 30] (fun n y i wr => y = y ∧ ∃ (k : Nat) (s0 : ByteArray), k ≤ ps.length ∧ i = .int .i64 k ∧ n = .string s0 ∧ bl s0 = 40 :: (bl op ++ textL (ps.take k)) ∧ Below w1.heap.size w1 wr) (fun _ _ i _ => ps.length - (intOf i).toNat)
  case atStart => exact ⟨rfl, 0, _, by omega, rfl, rfl, by simp [textL, bl], Below.refl _ _⟩
  case round =>
    obtain ⟨_, k, s0, hk, rfl, rfl, hs0, hB⟩ := hrel
    have HBW := Lib.hid hB
    by_cases hlt : k < ps.length
    · obtain ⟨ad, x0, x1, x2, x3, rfl, hbk, y0, y1, y2, y3, hy⟩ := (HP.out wr hB).part k hlt
      have hzt := textL_take ps k hlt
      have hle := textL_le ps (k + 1)
      have hms := size_mem (List.getElem_mem hlt)
      have hml := textL_mem (List.getElem_mem hlt)
      have hZL := HZL.out
      generalize ps[k] = ek at *
      obtain ⟨Z, z, hxe, _⟩ := hy.open
      simp only [List.cons.injEq, and_true] at hxe
      obtain ⟨rfl, rfl, rfl, rfl⟩ := hxe
      obtain ⟨w3, hw13⟩ : ∃ v, v = wr.alloc (.cells #[.string ek.op, .string ek.nm, .string ek.fo, .slice Z ek.ps.length z] 34) := ⟨_, rfl⟩
      obtain ⟨b3, hbe3⟩ : ∃ v, v = wr.heap.size := ⟨_, rfl⟩
      have hb13 : Below wr.heap.size wr w3 := by rw [hw13]; exact al _ _
      have a13 : w3.heap[b3]? = some (.cells #[.string ek.op, .string ek.nm, .string ek.fo, .slice Z ek.ps.length z] 34 (0, 0)) := by rw [hw13, hbe3]; exact heap_alloc_new wr _
      have HW3 := Lib.hid hw13
      have HBE3 := Lib.hid hbe3
      clear hw13 hbe3
      have hcall := HI.out ek _ w3 (Nat.le_trans hms HZ.out) (by omega) (hy.later hb13)
      have HLT := Lib.hid (Nat.not_le_of_lt hlt)
      have HB3 := Lib.hid (Below.step hB hb13)
      have z3 : s0.size ≤ 1000000 := by rw [← bl_size, hs0]; rw [hzt] at hle; simp only [List.length_append, List.length_cons, bl_size] at hle ⊢; omega
      generalize htx : (⟨ek.text.toArray⟩ : ByteArray) = tx at *
      have e2 : bl tx = ek.text := by rw [← htx]
      have z4 : tx.size ≤ 1000000 := by rw [← bl_size, e2]; omega
      have e1 : bl (s0 ++ (⟨#[32]⟩ ++ tx)) = bl s0 ++ (32 :: bl tx) := by simp [bl]
      have HM := Lib.hid (show bl (s0 ++ (⟨#[32]⟩ ++ tx)) = 40 :: (bl op ++ textL (ps.take (k + 1))) from by rw [e1, e2, hs0, hzt]; simp)
      obtain ⟨p0, p1, p2, p3⟩ := four_at a13
      clear e1 e2 htx hzt hle hml hms hZL hs0 hy hB hbk hb13 a13
      go_upto_region 12 with fail
      try rw [← HW3.out]
      try rw [← HBE3.out]
      clear HW3 y0 y1 y2 y3
      go_wp2_with fail
      (with_reducible refine hcall.mono ?_)
      clear hcall p0 p1 p2 p3
      rintro r' w2 ⟨rfl, hb⟩
      have HB2 := Lib.hid (Below.step HB3.out hb)
      clear hb
      go_wp2_with fail
      go_roundw
      case rel => exact ⟨trivial, k + 1, _, by have := HLT.out; omega, by go_num, rfl, HM.out, HB2.out⟩
      case measure => have := HLT.out; simp [intOf]; omega
    · have HE := Lib.hid (show s0 ++ ⟨#[41]⟩ = ⟨(Ex.mk op nm fo ps).text.toArray⟩ from ba_of (by rw [HV.out]; rw [List.take_of_length_le (by omega)] at hs0; rw [show bl (s0 ++ ⟨#[41]⟩) = bl s0 ++ [41] from by simp [bl], hs0]; simp [bl]))
      have z3 : s0.size ≤ 1000000 := by rw [← bl_size, hs0, List.take_of_length_le (by omega)]; have := HZL.out; simp only [List.length_append, List.length_cons, bl_size]; omega
      clear hs0
      have hn : ¬ (k : Int) < (ps.length : Int) := by omega
      go_wp2_with fail
      go_ret
      exact ⟨ret_str HE.out, HB1.out.trans (HBW.out.mono HB1.out.size)⟩
theorem exprText_any : ∀ (N : Nat), ∀ (e : Ex) (q : List Value) (w : World), e.size ≤ N → e.text.length ≤ 1000000 → Lay w w.heap.size e q → Calls Tryd.prog 48 #[.agg q.toArray] w fun r w' => r = .returned (.string ⟨e.text.toArray⟩) ∧ Below w.heap.size w w' := by
  intro N
  induction N with
  | zero => intro e; obtain ⟨op, nm, fo, ps⟩ := e; intro q w hN; simp only [Ex.size] at hN; omega
  | succ N ih => intro e; obtain ⟨op, nm, fo, ps⟩ := e; exact exprText_step N ih op nm fo ps
end Go.Proofs.YtkmnbdomikpakaaDoor.RuleTextC
