/- The document's answers for expressions: Deep, Size and their kin, over the parts in memory. -/
import Derived.Test.YtkmnbdomikpakaaDoorKFrames
import Derived.Test.YtkmnbdomikpakaaDoorKHeld
import Derived.Test.YtkmnbdomikpakaaDoorKInv2
import Derived.Test.YtkmnbdomikpakaaDoorKRuleMem
import Derived.Deep.CutBlock
namespace Go.Proofs.YtkmnbdomikpakaaDoor.RuleRec
open Go.RowKit Base KeyPlain TuplePlain TupleRef RulePlain RuleMem

theorem wrap_one : wrap 1 = 1 := by simp only [wrap, wrap64]; omega
theorem wrap_add (a b : Nat) : wrap64 (wrap a + wrap b) = wrap (a + b) := by
  simp only [wrap, wrap64]
  omega
theorem tl_this (p : ByteArray) : (p.toList == [116, 104, 105, 115]) = decide (p = kThis) := by have h := Str.ba_beq p kThis; simpa using h
theorem tl_rel (p : ByteArray) : (p.toList == [114, 101, 108]) = decide (p = kRel) := by have h := Str.ba_beq p kRel; simpa using h
theorem tl_from (p : ByteArray) : (p.toList == [102, 114, 111, 109]) = decide (p = kFrom) := by have h := Str.ba_beq p kFrom; simpa using h
theorem tl_or (p : ByteArray) : (p.toList == [111, 114]) = decide (p = kOr) := by have h := Str.ba_beq p kOr; simpa using h
theorem tl_and (p : ByteArray) : (p.toList == [97, 110, 100]) = decide (p = kAnd) := by have h := Str.ba_beq p kAnd; simpa using h
theorem tl_but (p : ByteArray) : (p.toList == [98, 117, 116]) = decide (p = kBut) := by have h := Str.ba_beq p kBut; simpa using h
theorem tl_kind (p : ByteArray) : (p.toList == [107, 105, 110, 100]) = decide (p = kKind) := by have h := Str.ba_beq p kKind; simpa using h
set_option maxRecDepth 100000 in
set_option maxHeartbeats 6400000 in
theorem refDeep_step (N : Nat) (HI0 : ∀ (e : Ex) (q : List Value) (w : World), e.size ≤ N → e.deep ≤ 1000000 → Lay w w.heap.size e q → Calls Tryd.prog 18 #[.agg q.toArray] w fun r w' => r = .returned (.int .i64 (e.deep : Int)) ∧ Below w.heap.size w w') (op nm fo : ByteArray) (ps : List Ex) : ∀ (q : List Value) (w : World), (Ex.mk op nm fo ps).size ≤ N + 1 → (Ex.mk op nm fo ps).deep ≤ 1000000 → Lay w w.heap.size (Ex.mk op nm fo ps) q → Calls Tryd.prog 18 #[.agg q.toArray] w fun r w' => r = .returned (.int .i64 ((Ex.mk op nm fo ps).deep : Int)) ∧ Below w.heap.size w w' := by
  intro q w hN hd hL
  obtain ⟨A, c, rfl, hs, hl⟩ := hL.open
  have HZ := Lib.hid (show sizeL ps ≤ N from by simp only [Ex.size] at hN; omega)
  simp only [Ex.op, Ex.nm, Ex.fo, Ex.ps] at hl hs ⊢
  unfold maxLen at hl
  have HI := Lib.hid HI0
  clear HI0
  have HD := Lib.hid (show (Ex.mk op nm fo ps).deep = deepL ps + 1 from by simp only [Ex.deep])
  have HDL := Lib.hid (show deepL ps ≤ 1000000 from by simp only [Ex.deep] at hd; omega)
  obtain ⟨w1, hw1⟩ : ∃ v, v = w.alloc (.cells #[.string op, .string nm, .string fo, .slice A ps.length c] 34) := ⟨_, rfl⟩
  obtain ⟨b, hbe⟩ : ∃ v, v = w.heap.size := ⟨_, rfl⟩
  have hb1 : Below w.heap.size w w1 := by rw [hw1]; exact al _ _
  have a1 : w1.heap[b]? = some (.cells #[.string op, .string nm, .string fo, .slice A ps.length c] 34 (0, 0)) := by rw [hw1, hbe]; exact heap_alloc_new w _
  have hl1 : b < w1.heap.size := by rw [hw1, hbe]; simp
  have HC := Lib.hid (fun (w' : World) (hw' : Below w1.heap.size w1 w') => four_at ((hw'.block b hl1).trans a1))
  have HP := Lib.hid (fun (w' : World) (hw' : Below w1.heap.size w1 w') => (hs.imp (see_later (Below.step hb1 hw')) fun _ _ _ h => h.later (Below.step hb1 hw')))
  have HB1 := Lib.hid hb1
  have HW := Lib.hid hw1
  have HBE := Lib.hid hbe
  clear hw1 a1 hl1 hbe hb1 hs hL hN hd
  go_enter Tryd.func18, Tryd.ntmps18
  go_upto_region 1 with fail
  try rw [← HW.out]
  try rw [← HBE.out]
  clear HW
  go_wp2_with fail
  go_loopw [3, 4, 5] (fun n i d wr => d = d ∧ ∃ k : Nat, k ≤ ps.length ∧ i = .int .i64 k ∧ n = .int .i64 (deepL (ps.take k) : Int) ∧ Below w1.heap.size w1 wr) (fun _ i _ _ => ps.length - (intOf i).toNat)
  case atStart => exact ⟨rfl, 0, by omega, rfl, by simp [deepL], Below.refl _ _⟩
  case round =>
    obtain ⟨_, k, hk, rfl, rfl, hB⟩ := hrel
    have HBW := Lib.hid hB
    obtain ⟨d0, d1, d2, d3⟩ := HC.out wr hB
    by_cases hlt : k < ps.length
    · obtain ⟨ad, x0, x1, x2, x3, rfl, hbk, y0, y1, y2, y3, hy⟩ := (HP.out wr hB).part k hlt
      have hz := deepL_take ps k hlt
      have hm := deepL_mem (List.getElem_mem hlt)
      have hms := size_mem (List.getElem_mem hlt)
      have hcall := HI.out ps[k] _ wr (Nat.le_trans hms HZ.out) (Nat.le_trans hm HDL.out) hy
      have hle := deepL_le ps k
      have HLE := HDL.out
      generalize deepL (ps.take k) = m0 at *
      generalize (ps[k]).deep = m2 at *
      have HLT := Lib.hid (Nat.not_le_of_lt hlt)
      clear hbk hy hms hB
      by_cases hg : m0 < m2
      · have hgI : (m0 : Int) < (m2 : Int) := by omega
        have HM := Lib.hid (show deepL (ps.take (k + 1)) = m2 from by omega)
        have HMB := Lib.hid (show m2 ≤ 1000000 from by omega)
        clear hz hm hle HLE hg
        go_wp2_with fail
        (with_reducible refine hcall.mono ?_)
        clear hcall y0 y1 y2 y3 d0 d1 d2 d3
        rintro r' w2 ⟨rfl, hb⟩
        have HB2 := Lib.hid (Below.step HBW.out hb)
        clear hb
        go_wp2_with fail
        go_roundw
        case rel => exact ⟨trivial, k + 1, by have := HLT.out; omega, by go_num, by rw [HM.out], HB2.out⟩
        case measure => have := HLT.out; simp [intOf]; omega
      · have hgI : ¬ (m0 : Int) < (m2 : Int) := by omega
        have HM := Lib.hid (show deepL (ps.take (k + 1)) = m0 from by omega)
        clear hz hm hle HLE hg
        go_wp2_with fail
        (with_reducible refine hcall.mono ?_)
        clear hcall y0 y1 y2 y3 d0 d1 d2 d3
        rintro r' w2 ⟨rfl, hb⟩
        have HB2 := Lib.hid (Below.step HBW.out hb)
        clear hb
        go_wp2_with fail
        go_roundw
        case rel => exact ⟨trivial, k + 1, by have := HLT.out; omega, by go_num, by rw [HM.out], HB2.out⟩
        case measure => have := HLT.out; simp [intOf]; omega
    · have HE := Lib.hid (show deepL (ps.take k) = deepL ps from by rw [List.take_of_length_le (by omega)])
      rw [HE.out]
      have hle := HDL.out
      have hn : ¬ (k : Int) < (ps.length : Int) := by omega
      generalize deepL ps = m at *
      go_wp2_with fail
      go_ret
      exact ⟨ret_int (by rw [HD.out]; go_num), HB1.out.trans (HBW.out.mono HB1.out.size)⟩
theorem refDeep_any : ∀ (N : Nat), ∀ (e : Ex) (q : List Value) (w : World), e.size ≤ N → e.deep ≤ 1000000 → Lay w w.heap.size e q → Calls Tryd.prog 18 #[.agg q.toArray] w fun r w' => r = .returned (.int .i64 (e.deep : Int)) ∧ Below w.heap.size w w' := by
  intro N
  induction N with
  | zero => intro e; obtain ⟨op, nm, fo, ps⟩ := e; intro q w hN; simp only [Ex.size] at hN; omega
  | succ N ih => intro e; obtain ⟨op, nm, fo, ps⟩ := e; exact refDeep_step N ih op nm fo ps
set_option maxRecDepth 100000 in
set_option maxHeartbeats 6400000 in
theorem refSize_step (N : Nat) (HI0 : ∀ (e : Ex) (q : List Value) (w : World), e.size ≤ N → Lay w w.heap.size e q → Calls Tryd.prog 20 #[.agg q.toArray] w fun r w' => r = .returned (.int .i64 (wrap e.size)) ∧ Below w.heap.size w w') (op nm fo : ByteArray) (ps : List Ex) : ∀ (q : List Value) (w : World), (Ex.mk op nm fo ps).size ≤ N + 1 → Lay w w.heap.size (Ex.mk op nm fo ps) q → Calls Tryd.prog 20 #[.agg q.toArray] w fun r w' => r = .returned (.int .i64 (wrap (Ex.mk op nm fo ps).size)) ∧ Below w.heap.size w w' := by
  intro q w hN hL
  obtain ⟨A, c, rfl, hs, hl⟩ := hL.open
  have HZ := Lib.hid (show sizeL ps ≤ N from by simp only [Ex.size] at hN; omega)
  simp only [Ex.op, Ex.nm, Ex.fo, Ex.ps] at hl hs ⊢
  unfold maxLen at hl
  have HI := Lib.hid HI0
  clear HI0
  have HD := Lib.hid (show (Ex.mk op nm fo ps).size = sizeL ps + 1 from by simp only [Ex.size])
  obtain ⟨w1, hw1⟩ : ∃ v, v = w.alloc (.cells #[.string op, .string nm, .string fo, .slice A ps.length c] 34) := ⟨_, rfl⟩
  obtain ⟨b, hbe⟩ : ∃ v, v = w.heap.size := ⟨_, rfl⟩
  have hb1 : Below w.heap.size w w1 := by rw [hw1]; exact al _ _
  have a1 : w1.heap[b]? = some (.cells #[.string op, .string nm, .string fo, .slice A ps.length c] 34 (0, 0)) := by rw [hw1, hbe]; exact heap_alloc_new w _
  have hl1 : b < w1.heap.size := by rw [hw1, hbe]; simp
  have HC := Lib.hid (fun (w' : World) (hw' : Below w1.heap.size w1 w') => four_at ((hw'.block b hl1).trans a1))
  have HP := Lib.hid (fun (w' : World) (hw' : Below w1.heap.size w1 w') => (hs.imp (see_later (Below.step hb1 hw')) fun _ _ _ h => h.later (Below.step hb1 hw')))
  have HB1 := Lib.hid hb1
  have HW := Lib.hid hw1
  have HBE := Lib.hid hbe
  clear hw1 a1 hl1 hbe hb1 hs hL hN
  go_enter Tryd.func20, Tryd.ntmps20
  go_upto_region 1 with fail
  try rw [← HW.out]
  try rw [← HBE.out]
  clear HW
  go_wp2_with fail
  go_loopw [3, 4] (fun n i wr => ∃ k : Nat, k ≤ ps.length ∧ i = .int .i64 k ∧ n = .int .i64 (wrap (sizeL (ps.take k) + 1)) ∧ Below w1.heap.size w1 wr) (fun _ i _ => ps.length - (intOf i).toNat)
  case atStart => exact ⟨0, by omega, rfl, by simp [sizeL, wrap_one], Below.refl _ _⟩
  case round =>
    obtain ⟨k, hk, rfl, rfl, hB⟩ := hrel
    have HBW := Lib.hid hB
    obtain ⟨d0, d1, d2, d3⟩ := HC.out wr hB
    by_cases hlt : k < ps.length
    · obtain ⟨ad, x0, x1, x2, x3, rfl, hbk, y0, y1, y2, y3, hy⟩ := (HP.out wr hB).part k hlt
      have HZT := Lib.hid (sizeL_take ps k hlt)
      have hms := size_mem (List.getElem_mem hlt)
      have hcall := HI.out ps[k] _ wr (Nat.le_trans hms HZ.out) hy
      have HLT := Lib.hid (Nat.not_le_of_lt hlt)
      clear hbk hy hms hB
      generalize hm0 : wrap (sizeL (ps.take k) + 1) = m0 at *
      generalize hm2 : wrap (ps[k]).size = m2 at *
      have HM := Lib.hid (show wrap64 (m0 + m2) = wrap (sizeL (ps.take (k + 1)) + 1) from by rw [← hm0, ← hm2, HZT.out]; exact (wrap_add _ _).trans (by congr 1; omega))
      clear hm0 hm2
      go_wp2_with fail
      (with_reducible refine hcall.mono ?_)
      clear hcall y0 y1 y2 y3 d0 d1 d2 d3
      rintro r' w2 ⟨rfl, hb⟩
      have HB2 := Lib.hid (Below.step HBW.out hb)
      clear hb
      go_wp2_with fail
      go_roundw
      case rel => exact ⟨k + 1, by have := HLT.out; omega, by go_num, by rw [← HM.out], HB2.out⟩
      case measure => have := HLT.out; simp [intOf]; omega
    · have HE := Lib.hid (show wrap (sizeL (ps.take k) + 1) = wrap (Ex.mk op nm fo ps).size from by rw [List.take_of_length_le (by omega), HD.out])
      rw [HE.out]
      have hn : ¬ (k : Int) < (ps.length : Int) := by omega
      generalize hG : wrap (Ex.mk op nm fo ps).size = m at *
      have HG := Lib.hid hG
      clear hG
      go_wp2_with fail
      go_ret
      exact ⟨ret_int HG.out.symm, HB1.out.trans (HBW.out.mono HB1.out.size)⟩
theorem refSize_any : ∀ (N : Nat), ∀ (e : Ex) (q : List Value) (w : World), e.size ≤ N → Lay w w.heap.size e q → Calls Tryd.prog 20 #[.agg q.toArray] w fun r w' => r = .returned (.int .i64 (wrap e.size)) ∧ Below w.heap.size w w' := by
  intro N
  induction N with
  | zero => intro e; obtain ⟨op, nm, fo, ps⟩ := e; intro q w hN; simp only [Ex.size] at hN; omega
  | succ N ih => intro e; obtain ⟨op, nm, fo, ps⟩ := e; exact refSize_step N ih op nm fo ps
set_option maxRecDepth 100000 in
set_option maxHeartbeats 12800000 in
theorem refForm_step (N : Nat) (HI0 : ∀ (e : Ex) (q : List Value) (w : World), e.size ≤ N → Lay w w.heap.size e q → Calls Tryd.prog 29 #[.agg q.toArray] w fun r w' => r = .returned (.bool e.form) ∧ Below w.heap.size w w') (op nm fo : ByteArray) (ps : List Ex) : ∀ (q : List Value) (w : World), (Ex.mk op nm fo ps).size ≤ N + 1 → Lay w w.heap.size (Ex.mk op nm fo ps) q → Calls Tryd.prog 29 #[.agg q.toArray] w fun r w' => r = .returned (.bool (Ex.mk op nm fo ps).form) ∧ Below w.heap.size w w' := by
  intro q w hN hL
  obtain ⟨A, c, rfl, hs, hl⟩ := hL.open
  have HZ := Lib.hid (show sizeL ps ≤ N from by simp only [Ex.size] at hN; omega)
  simp only [Ex.op, Ex.nm, Ex.fo, Ex.ps] at hl hs ⊢
  unfold maxLen at hl
  have HI := Lib.hid HI0
  clear HI0
  have HD := Lib.hid (show (Ex.mk op nm fo ps).form = (formS op nm fo ps.length && formL ps) from by simp only [Ex.form])
  obtain ⟨w1, hw1⟩ : ∃ v, v = w.alloc (.cells #[.string op, .string nm, .string fo, .slice A ps.length c] 34) := ⟨_, rfl⟩
  obtain ⟨b, hbe⟩ : ∃ v, v = w.heap.size := ⟨_, rfl⟩
  have hb1 : Below w.heap.size w w1 := by rw [hw1]; exact al _ _
  have a1 : w1.heap[b]? = some (.cells #[.string op, .string nm, .string fo, .slice A ps.length c] 34 (0, 0)) := by rw [hw1, hbe]; exact heap_alloc_new w _
  have hl1 : b < w1.heap.size := by rw [hw1, hbe]; simp
  have HC := Lib.hid (fun (w' : World) (hw' : Below w1.heap.size w1 w') => four_at ((hw'.block b hl1).trans a1))
  have HP := Lib.hid (fun (w' : World) (hw' : Below w1.heap.size w1 w') => (hs.imp (see_later (Below.step hb1 hw')) fun _ _ _ h => h.later (Below.step hb1 hw')))
  have HB1 := Lib.hid hb1
  have HW := Lib.hid hw1
  have HBE := Lib.hid hbe
  clear hw1 a1 hl1 hbe hb1 hs hL hN
  go_enter Tryd.func29, Tryd.ntmps29
  go_upto_region 1 with fail
  try rw [← HW.out]
  try rw [← HBE.out]
  obtain ⟨d0, d1, d2, d3⟩ := HC.out w1 (Below.refl _ _)
  clear HW
  go_upto_block 0 with fail
  go_cut [3] from 7 to 72 (fun s3 wx => s3 = .bool (formS op nm fo ps.length) ∧ w1 = wx)
  case first =>
    clear HI HP HD HZ
    by_cases n_this : op = kThis
    · have hop := n_this
      clear n_this 
      have q_this : (op.toList == [116, 104, 105, 115]) = true := by rw [tl_this, decide_eq_true hop]
      have q_rel : (op.toList == [114, 101, 108]) = false := by rw [tl_rel, hop]; decide
      have q_from : (op.toList == [102, 114, 111, 109]) = false := by rw [tl_from, hop]; decide
      have q_or : (op.toList == [111, 114]) = false := by rw [tl_or, hop]; decide
      have q_and : (op.toList == [97, 110, 100]) = false := by rw [tl_and, hop]; decide
      have q_but : (op.toList == [98, 117, 116]) = false := by rw [tl_but, hop]; decide
      by_cases h_nm : nm.size = 0
      · have z_nm : nm.toList.isEmpty = true := by rw [empty_eq]; exact decide_eq_true h_nm
        by_cases h_fo : fo.size = 0
        · have z_fo : fo.toList.isEmpty = true := by rw [empty_eq]; exact decide_eq_true h_fo
          by_cases h_n : ps.length = 0
          · have z_n : ((ps.length : Int) == 0) = true := by rw [beq_iff_eq]; omega
            have HV := Lib.hid (show formS op nm fo ps.length = true from by simp [formS, *])
            clear hop
            go_wp2_with fail
            go_meet
            exact ⟨by rw [HV.out], rfl⟩
          · have z_n : ((ps.length : Int) == 0) = false := by rw [beq_eq_false_iff_ne]; omega
            have HV := Lib.hid (show formS op nm fo ps.length = false from by simp [formS, *])
            clear hop
            go_wp2_with fail
            go_meet
            exact ⟨by rw [HV.out], rfl⟩
        · have z_fo : fo.toList.isEmpty = false := by rw [empty_eq]; exact decide_eq_false h_fo
          have HV := Lib.hid (show formS op nm fo ps.length = false from by simp [formS, *])
          clear hop
          go_wp2_with fail
          go_meet
          exact ⟨by rw [HV.out], rfl⟩
      · have z_nm : nm.toList.isEmpty = false := by rw [empty_eq]; exact decide_eq_false h_nm
        have HV := Lib.hid (show formS op nm fo ps.length = false from by simp [formS, *])
        clear hop
        go_wp2_with fail
        go_meet
        exact ⟨by rw [HV.out], rfl⟩
    by_cases n_rel : op = kRel
    · have hop := n_rel
      clear n_rel n_this
      have q_this : (op.toList == [116, 104, 105, 115]) = false := by rw [tl_this, hop]; decide
      have q_rel : (op.toList == [114, 101, 108]) = true := by rw [tl_rel, decide_eq_true hop]
      have q_from : (op.toList == [102, 114, 111, 109]) = false := by rw [tl_from, hop]; decide
      have q_or : (op.toList == [111, 114]) = false := by rw [tl_or, hop]; decide
      have q_and : (op.toList == [97, 110, 100]) = false := by rw [tl_and, hop]; decide
      have q_but : (op.toList == [98, 117, 116]) = false := by rw [tl_but, hop]; decide
      by_cases h_fo : fo.size = 0
      · have z_fo : fo.toList.isEmpty = true := by rw [empty_eq]; exact decide_eq_true h_fo
        by_cases h_n : ps.length = 0
        · have z_n : ((ps.length : Int) == 0) = true := by rw [beq_iff_eq]; omega
          have HV := Lib.hid (show formS op nm fo ps.length = true from by simp [formS, *])
          clear hop
          go_wp2_with fail
          go_meet
          exact ⟨by rw [HV.out], rfl⟩
        · have z_n : ((ps.length : Int) == 0) = false := by rw [beq_eq_false_iff_ne]; omega
          have HV := Lib.hid (show formS op nm fo ps.length = false from by simp [formS, *])
          clear hop
          go_wp2_with fail
          go_meet
          exact ⟨by rw [HV.out], rfl⟩
      · have z_fo : fo.toList.isEmpty = false := by rw [empty_eq]; exact decide_eq_false h_fo
        have HV := Lib.hid (show formS op nm fo ps.length = false from by simp [formS, *])
        clear hop
        go_wp2_with fail
        go_meet
        exact ⟨by rw [HV.out], rfl⟩
    by_cases n_from : op = kFrom
    · have hop := n_from
      clear n_from n_this n_rel
      have q_this : (op.toList == [116, 104, 105, 115]) = false := by rw [tl_this, hop]; decide
      have q_rel : (op.toList == [114, 101, 108]) = false := by rw [tl_rel, hop]; decide
      have q_from : (op.toList == [102, 114, 111, 109]) = true := by rw [tl_from, decide_eq_true hop]
      have q_or : (op.toList == [111, 114]) = false := by rw [tl_or, hop]; decide
      have q_and : (op.toList == [97, 110, 100]) = false := by rw [tl_and, hop]; decide
      have q_but : (op.toList == [98, 117, 116]) = false := by rw [tl_but, hop]; decide
      by_cases h_n : ps.length = 0
      · have z_n : ((ps.length : Int) == 0) = true := by rw [beq_iff_eq]; omega
        have HV := Lib.hid (show formS op nm fo ps.length = true from by simp [formS, *])
        clear hop
        go_wp2_with fail
        go_meet
        exact ⟨by rw [HV.out], rfl⟩
      · have z_n : ((ps.length : Int) == 0) = false := by rw [beq_eq_false_iff_ne]; omega
        have HV := Lib.hid (show formS op nm fo ps.length = false from by simp [formS, *])
        clear hop
        go_wp2_with fail
        go_meet
        exact ⟨by rw [HV.out], rfl⟩
    by_cases n_or : op = kOr
    · have hop := n_or
      clear n_or n_this n_rel n_from
      have q_this : (op.toList == [116, 104, 105, 115]) = false := by rw [tl_this, hop]; decide
      have q_rel : (op.toList == [114, 101, 108]) = false := by rw [tl_rel, hop]; decide
      have q_from : (op.toList == [102, 114, 111, 109]) = false := by rw [tl_from, hop]; decide
      have q_or : (op.toList == [111, 114]) = true := by rw [tl_or, decide_eq_true hop]
      have q_and : (op.toList == [97, 110, 100]) = false := by rw [tl_and, hop]; decide
      have q_but : (op.toList == [98, 117, 116]) = false := by rw [tl_but, hop]; decide
      by_cases h_nm : nm.size = 0
      · have z_nm : nm.toList.isEmpty = true := by rw [empty_eq]; exact decide_eq_true h_nm
        by_cases h_fo : fo.size = 0
        · have z_fo : fo.toList.isEmpty = true := by rw [empty_eq]; exact decide_eq_true h_fo
          by_cases h_n : 1 < ps.length
          · have z_n : (1 : Int) < (ps.length : Int) := by omega
            have HV := Lib.hid (show formS op nm fo ps.length = true from by simp [formS, *])
            clear hop
            go_wp2_with fail
            go_meet
            exact ⟨by rw [HV.out], rfl⟩
          · have z_n : ¬ (1 : Int) < (ps.length : Int) := by omega
            have HV := Lib.hid (show formS op nm fo ps.length = false from by simp [formS, *])
            clear hop
            go_wp2_with fail
            go_meet
            exact ⟨by rw [HV.out], rfl⟩
        · have z_fo : fo.toList.isEmpty = false := by rw [empty_eq]; exact decide_eq_false h_fo
          have HV := Lib.hid (show formS op nm fo ps.length = false from by simp [formS, *])
          clear hop
          go_wp2_with fail
          go_meet
          exact ⟨by rw [HV.out], rfl⟩
      · have z_nm : nm.toList.isEmpty = false := by rw [empty_eq]; exact decide_eq_false h_nm
        have HV := Lib.hid (show formS op nm fo ps.length = false from by simp [formS, *])
        clear hop
        go_wp2_with fail
        go_meet
        exact ⟨by rw [HV.out], rfl⟩
    by_cases n_and : op = kAnd
    · have hop := n_and
      clear n_and n_this n_rel n_from n_or
      have q_this : (op.toList == [116, 104, 105, 115]) = false := by rw [tl_this, hop]; decide
      have q_rel : (op.toList == [114, 101, 108]) = false := by rw [tl_rel, hop]; decide
      have q_from : (op.toList == [102, 114, 111, 109]) = false := by rw [tl_from, hop]; decide
      have q_or : (op.toList == [111, 114]) = false := by rw [tl_or, hop]; decide
      have q_and : (op.toList == [97, 110, 100]) = true := by rw [tl_and, decide_eq_true hop]
      have q_but : (op.toList == [98, 117, 116]) = false := by rw [tl_but, hop]; decide
      by_cases h_nm : nm.size = 0
      · have z_nm : nm.toList.isEmpty = true := by rw [empty_eq]; exact decide_eq_true h_nm
        by_cases h_fo : fo.size = 0
        · have z_fo : fo.toList.isEmpty = true := by rw [empty_eq]; exact decide_eq_true h_fo
          by_cases h_n : 1 < ps.length
          · have z_n : (1 : Int) < (ps.length : Int) := by omega
            have HV := Lib.hid (show formS op nm fo ps.length = true from by simp [formS, *])
            clear hop
            go_wp2_with fail
            go_meet
            exact ⟨by rw [HV.out], rfl⟩
          · have z_n : ¬ (1 : Int) < (ps.length : Int) := by omega
            have HV := Lib.hid (show formS op nm fo ps.length = false from by simp [formS, *])
            clear hop
            go_wp2_with fail
            go_meet
            exact ⟨by rw [HV.out], rfl⟩
        · have z_fo : fo.toList.isEmpty = false := by rw [empty_eq]; exact decide_eq_false h_fo
          have HV := Lib.hid (show formS op nm fo ps.length = false from by simp [formS, *])
          clear hop
          go_wp2_with fail
          go_meet
          exact ⟨by rw [HV.out], rfl⟩
      · have z_nm : nm.toList.isEmpty = false := by rw [empty_eq]; exact decide_eq_false h_nm
        have HV := Lib.hid (show formS op nm fo ps.length = false from by simp [formS, *])
        clear hop
        go_wp2_with fail
        go_meet
        exact ⟨by rw [HV.out], rfl⟩
    by_cases n_but : op = kBut
    · have hop := n_but
      clear n_but n_this n_rel n_from n_or n_and
      have q_this : (op.toList == [116, 104, 105, 115]) = false := by rw [tl_this, hop]; decide
      have q_rel : (op.toList == [114, 101, 108]) = false := by rw [tl_rel, hop]; decide
      have q_from : (op.toList == [102, 114, 111, 109]) = false := by rw [tl_from, hop]; decide
      have q_or : (op.toList == [111, 114]) = false := by rw [tl_or, hop]; decide
      have q_and : (op.toList == [97, 110, 100]) = false := by rw [tl_and, hop]; decide
      have q_but : (op.toList == [98, 117, 116]) = true := by rw [tl_but, decide_eq_true hop]
      by_cases h_nm : nm.size = 0
      · have z_nm : nm.toList.isEmpty = true := by rw [empty_eq]; exact decide_eq_true h_nm
        by_cases h_fo : fo.size = 0
        · have z_fo : fo.toList.isEmpty = true := by rw [empty_eq]; exact decide_eq_true h_fo
          by_cases h_n : ps.length = 2
          · have z_n : ((ps.length : Int) == 2) = true := by rw [beq_iff_eq]; omega
            have HV := Lib.hid (show formS op nm fo ps.length = true from by simp [formS, *])
            clear hop
            go_wp2_with fail
            go_meet
            exact ⟨by rw [HV.out], rfl⟩
          · have z_n : ((ps.length : Int) == 2) = false := by rw [beq_eq_false_iff_ne]; omega
            have HV := Lib.hid (show formS op nm fo ps.length = false from by simp [formS, *])
            clear hop
            go_wp2_with fail
            go_meet
            exact ⟨by rw [HV.out], rfl⟩
        · have z_fo : fo.toList.isEmpty = false := by rw [empty_eq]; exact decide_eq_false h_fo
          have HV := Lib.hid (show formS op nm fo ps.length = false from by simp [formS, *])
          clear hop
          go_wp2_with fail
          go_meet
          exact ⟨by rw [HV.out], rfl⟩
      · have z_nm : nm.toList.isEmpty = false := by rw [empty_eq]; exact decide_eq_false h_nm
        have HV := Lib.hid (show formS op nm fo ps.length = false from by simp [formS, *])
        clear hop
        go_wp2_with fail
        go_meet
        exact ⟨by rw [HV.out], rfl⟩
    have q_this : (op.toList == [116, 104, 105, 115]) = false := by rw [tl_this, decide_eq_false n_this]
    have q_rel : (op.toList == [114, 101, 108]) = false := by rw [tl_rel, decide_eq_false n_rel]
    have q_from : (op.toList == [102, 114, 111, 109]) = false := by rw [tl_from, decide_eq_false n_from]
    have q_or : (op.toList == [111, 114]) = false := by rw [tl_or, decide_eq_false n_or]
    have q_and : (op.toList == [97, 110, 100]) = false := by rw [tl_and, decide_eq_false n_and]
    have q_but : (op.toList == [98, 117, 116]) = false := by rw [tl_but, decide_eq_false n_but]
    have HV := Lib.hid (show formS op nm fo ps.length = false from by simp [formS, *])
    go_wp2_with fail
    go_meet
    exact ⟨by rw [HV.out], rfl⟩
  case rest =>
    obtain ⟨rfl, rfl⟩ := hcut
    clear d0 d1 d2 d3
    generalize hfs : formS op nm fo ps.length = fs at *
    clear hfs
    go_wp2_with fail
    go_loopw [3, 4] (fun n i wr => ∃ k : Nat, k ≤ ps.length ∧ i = .int .i64 k ∧ n = .bool (fs && formL (ps.take k)) ∧ Below w1.heap.size w1 wr) (fun _ i _ => ps.length - (intOf i).toNat)
    case atStart => exact ⟨0, by omega, rfl, by simp [formL], Below.refl _ _⟩
    case round =>
      obtain ⟨k, hk, rfl, rfl, hB⟩ := hrel
      have HBW := Lib.hid hB
      obtain ⟨d0, d1, d2, d3⟩ := HC.out wr hB
      by_cases hlt : k < ps.length
      · obtain ⟨ad, x0, x1, x2, x3, rfl, hbk, y0, y1, y2, y3, hy⟩ := (HP.out wr hB).part k hlt
        have HZT := Lib.hid (formL_take ps k hlt)
        have hms := size_mem (List.getElem_mem hlt)
        have hcall := HI.out ps[k] _ wr (Nat.le_trans hms HZ.out) hy
        have HLT := Lib.hid (Nat.not_le_of_lt hlt)
        clear hy hms hB
        generalize formL (ps.take k) = m0 at *
        generalize (ps[k]).form = m2 at *
        obtain ⟨u, hu⟩ : ∃ u, u = (fs && m0) := ⟨_, rfl⟩
        rw [← hu]
        have HM := Lib.hid (show (fs && formL (ps.take (k + 1))) = (u && m2) from by rw [HZT.out, hu, Bool.and_assoc])
        clear hu
        cases u with
        | true =>
          clear hbk
          go_wp2_with fail
          (with_reducible refine hcall.mono ?_)
          clear hcall y0 y1 y2 y3 d0 d1 d2 d3
          rintro r' w2 ⟨rfl, hb⟩
          have HB2 := Lib.hid (Below.step HBW.out hb)
          clear hb
          go_wp2_with fail
          go_roundw
          case rel => exact ⟨k + 1, by have := HLT.out; omega, by go_num, by rw [HM.out]; rfl, HB2.out⟩
          case measure => have := HLT.out; simp [intOf]; omega
        | false =>
          clear hcall
          go_wp2_with fail
          go_roundw
          case rel => exact ⟨k + 1, by have := HLT.out; omega, by go_num, by rw [HM.out]; rfl, HBW.out⟩
          case measure => have := HLT.out; simp [intOf]; omega
      · have HE := Lib.hid (show (fs && formL (ps.take k)) = (Ex.mk op nm fo ps).form from by rw [List.take_of_length_le (by omega), HD.out])
        rw [HE.out]
        have hn : ¬ (k : Int) < (ps.length : Int) := by omega
        generalize hG : (Ex.mk op nm fo ps).form = m at *
        have HG := Lib.hid hG
        clear hG
        go_wp2_with fail
        go_ret
        exact ⟨ret_bool HG.out.symm, HB1.out.trans (HBW.out.mono HB1.out.size)⟩
theorem refForm_any : ∀ (N : Nat), ∀ (e : Ex) (q : List Value) (w : World), e.size ≤ N → Lay w w.heap.size e q → Calls Tryd.prog 29 #[.agg q.toArray] w fun r w' => r = .returned (.bool e.form) ∧ Below w.heap.size w w' := by
  intro N
  induction N with
  | zero => intro e; obtain ⟨op, nm, fo, ps⟩ := e; intro q w hN; simp only [Ex.size] at hN; omega
  | succ N ih => intro e; obtain ⟨op, nm, fo, ps⟩ := e; exact refForm_step N ih op nm fo ps
set_option maxRecDepth 100000 in
set_option maxHeartbeats 12800000 in
theorem refText_step (N : Nat) (HI0 : ∀ (e : Ex) (q : List Value) (w : World), e.size ≤ N → e.text.length ≤ 1000000 → Lay w w.heap.size e q → Calls Tryd.prog 31 #[.agg q.toArray] w fun r w' => r = .returned (.string ⟨e.text.toArray⟩) ∧ Below w.heap.size w w') (op nm fo : ByteArray) (ps : List Ex) : ∀ (q : List Value) (w : World), (Ex.mk op nm fo ps).size ≤ N + 1 → (Ex.mk op nm fo ps).text.length ≤ 1000000 → Lay w w.heap.size (Ex.mk op nm fo ps) q → Calls Tryd.prog 31 #[.agg q.toArray] w fun r w' => r = .returned (.string ⟨(Ex.mk op nm fo ps).text.toArray⟩) ∧ Below w.heap.size w w' := by
  intro q w hN hd hL
  obtain ⟨A, c, rfl, hs, hl⟩ := hL.open
  have HZ := Lib.hid (show sizeL ps ≤ N from by simp only [Ex.size] at hN; omega)
  simp only [Ex.op, Ex.nm, Ex.fo, Ex.ps] at hl hs ⊢
  unfold maxLen at hl
  have HI := Lib.hid HI0
  clear HI0
  have HX := Lib.hid (show (Ex.mk op nm fo ps).text = (if op = kThis then bl kThis else if op = kRel then bl nm else if op = kFrom then 40 :: (bl kFrom ++ 32 :: (bl fo ++ 32 :: (bl nm ++ [41]))) else 40 :: (bl op ++ (textL ps ++ [41]))) from by simp only [Ex.text])
  have HXL := Lib.hid hd
  obtain ⟨w1, hw1⟩ : ∃ v, v = w.alloc (.cells #[.string op, .string nm, .string fo, .slice A ps.length c] 34) := ⟨_, rfl⟩
  obtain ⟨b, hbe⟩ : ∃ v, v = w.heap.size := ⟨_, rfl⟩
  have hb1 : Below w.heap.size w w1 := by rw [hw1]; exact al _ _
  have a1 : w1.heap[b]? = some (.cells #[.string op, .string nm, .string fo, .slice A ps.length c] 34 (0, 0)) := by rw [hw1, hbe]; exact heap_alloc_new w _
  have hl1 : b < w1.heap.size := by rw [hw1, hbe]; simp
  have HC := Lib.hid (fun (w' : World) (hw' : Below w1.heap.size w1 w') => four_at ((hw'.block b hl1).trans a1))
  have HP := Lib.hid (fun (w' : World) (hw' : Below w1.heap.size w1 w') => (hs.imp (see_later (Below.step hb1 hw')) fun _ _ _ h => h.later (Below.step hb1 hw')))
  have HB1 := Lib.hid hb1
  have HW := Lib.hid hw1
  have HBE := Lib.hid hbe
  clear hw1 a1 hl1 hbe hb1 hs hL hN hd
  go_enter Tryd.func31, Tryd.ntmps31
  go_upto_region 1 with fail
  try rw [← HW.out]
  try rw [← HBE.out]
  obtain ⟨d0, d1, d2, d3⟩ := HC.out w1 (Below.refl _ _)
  clear HW
  by_cases n_this : op = kThis
  · have hop := n_this
    clear n_this 
    have q_this : (op.toList == [116, 104, 105, 115]) = true := by rw [tl_this, decide_eq_true hop]
    have q_rel : (op.toList == [114, 101, 108]) = false := by rw [tl_rel, hop]; decide
    have q_from : (op.toList == [102, 114, 111, 109]) = false := by rw [tl_from, hop]; decide
    have HV := Lib.hid (show (Ex.mk op nm fo ps).text = bl kThis from by rw [HX.out, if_pos hop])
    clear hop
    go_wp2_with fail
    go_ret
    exact ⟨ret_str (by rw [HV.out]), HB1.out⟩
  by_cases n_rel : op = kRel
  · have hop := n_rel
    clear n_rel n_this
    have q_this : (op.toList == [116, 104, 105, 115]) = false := by rw [tl_this, hop]; decide
    have q_rel : (op.toList == [114, 101, 108]) = true := by rw [tl_rel, decide_eq_true hop]
    have q_from : (op.toList == [102, 114, 111, 109]) = false := by rw [tl_from, hop]; decide
    have HV := Lib.hid (show (Ex.mk op nm fo ps).text = bl nm from by rw [HX.out, if_neg (by rw [hop]; decide), if_pos hop])
    clear hop
    go_wp2_with fail
    go_ret
    exact ⟨ret_str (by rw [HV.out]), HB1.out⟩
  by_cases n_from : op = kFrom
  · have hop := n_from
    clear n_from n_this n_rel
    have q_this : (op.toList == [116, 104, 105, 115]) = false := by rw [tl_this, hop]; decide
    have q_rel : (op.toList == [114, 101, 108]) = false := by rw [tl_rel, hop]; decide
    have q_from : (op.toList == [102, 114, 111, 109]) = true := by rw [tl_from, decide_eq_true hop]
    have HV := Lib.hid (show (Ex.mk op nm fo ps).text = 40 :: (bl kFrom ++ 32 :: (bl fo ++ 32 :: (bl nm ++ [41]))) from by rw [HX.out, if_neg (by rw [hop]; decide), if_neg (by rw [hop]; decide), if_pos hop])
    have hz := HXL.out
    rw [HV.out] at hz
    simp only [List.length_append, List.length_cons, List.length_nil, bl_size] at hz
    have z1 : fo.size ≤ 1000000 := by omega
    have z2 : nm.size ≤ 1000000 := by omega
    have HT := Lib.hid (show (⟨#[40, 102, 114, 111, 109, 32]⟩ : ByteArray) ++ fo ++ ⟨#[32]⟩ ++ nm ++ ⟨#[41]⟩ = ⟨(Ex.mk op nm fo ps).text.toArray⟩ from ba_of (by rw [HV.out]; simp [bl]))
    clear hop hz
    go_wp2_with fail
    go_ret
    exact ⟨ret_str HT.out, HB1.out⟩
  have q_this : (op.toList == [116, 104, 105, 115]) = false := by rw [tl_this, decide_eq_false n_this]
  have q_rel : (op.toList == [114, 101, 108]) = false := by rw [tl_rel, decide_eq_false n_rel]
  have q_from : (op.toList == [102, 114, 111, 109]) = false := by rw [tl_from, decide_eq_false n_from]
  have HV := Lib.hid (show (Ex.mk op nm fo ps).text = 40 :: (bl op ++ (textL ps ++ [41])) from by rw [HX.out, if_neg n_this, if_neg n_rel, if_neg n_from])
  clear n_this n_rel n_from
  have HZL := Lib.hid (show op.size + (textL ps).length + 2 ≤ 1000000 from by have hz := HXL.out; rw [HV.out] at hz; simp only [List.length_append, List.length_cons, List.length_nil, bl_size] at hz; omega)
  have z1 : op.size ≤ 1000000 := by have := HZL.out; omega
  clear HX
  go_wp2_with fail
  clear d0 d1 d2 d3
  go_loopw [3, 4] (fun n i wr => ∃ (k : Nat) (s0 : ByteArray), k ≤ ps.length ∧ i = .int .i64 k ∧ n = .string s0 ∧ bl s0 = 40 :: (bl op ++ textL (ps.take k)) ∧ Below w1.heap.size w1 wr) (fun _ i _ => ps.length - (intOf i).toNat)
  case atStart => exact ⟨0, _, by omega, rfl, rfl, by simp [textL, bl], Below.refl _ _⟩
  case round =>
    obtain ⟨k, s0, hk, rfl, rfl, hs0, hB⟩ := hrel
    have HBW := Lib.hid hB
    obtain ⟨d0, d1, d2, d3⟩ := HC.out wr hB
    by_cases hlt : k < ps.length
    · obtain ⟨ad, x0, x1, x2, x3, rfl, hbk, y0, y1, y2, y3, hy⟩ := (HP.out wr hB).part k hlt
      have hzt := textL_take ps k hlt
      have hle := textL_le ps (k + 1)
      have hms := size_mem (List.getElem_mem hlt)
      have hml := textL_mem (List.getElem_mem hlt)
      have hZL := HZL.out
      have hcall := HI.out ps[k] _ wr (Nat.le_trans hms HZ.out) (by omega) hy
      have HLT := Lib.hid (Nat.not_le_of_lt hlt)
      have z3 : s0.size ≤ 1000000 := by rw [← bl_size, hs0]; rw [hzt] at hle; simp only [List.length_append, List.length_cons, bl_size] at hle ⊢; omega
      generalize htx : (⟨(ps[k]).text.toArray⟩ : ByteArray) = tx at *
      have e2 : bl tx = (ps[k]).text := by rw [← htx]
      have z4 : tx.size ≤ 1000000 := by rw [← bl_size, e2]; omega
      have e1 : bl (s0 ++ (⟨#[32]⟩ ++ tx)) = bl s0 ++ (32 :: bl tx) := by simp [bl]
      have HM := Lib.hid (show bl (s0 ++ (⟨#[32]⟩ ++ tx)) = 40 :: (bl op ++ textL (ps.take (k + 1))) from by rw [e1, e2, hs0, hzt]; simp)
      clear e1 e2 htx hzt hle hml hms hZL hs0 hy hB hbk
      go_wp2_with fail
      (with_reducible refine hcall.mono ?_)
      clear hcall y0 y1 y2 y3 d0 d1 d2 d3
      rintro r' w2 ⟨rfl, hb⟩
      have HB2 := Lib.hid (Below.step HBW.out hb)
      clear hb
      go_wp2_with fail
      go_roundw
      case rel => exact ⟨k + 1, _, by have := HLT.out; omega, by go_num, rfl, HM.out, HB2.out⟩
      case measure => have := HLT.out; simp [intOf]; omega
    · have HE := Lib.hid (show s0 ++ ⟨#[41]⟩ = ⟨(Ex.mk op nm fo ps).text.toArray⟩ from ba_of (by rw [HV.out]; rw [List.take_of_length_le (by omega)] at hs0; rw [show bl (s0 ++ ⟨#[41]⟩) = bl s0 ++ [41] from by simp [bl], hs0]; simp [bl]))
      have z3 : s0.size ≤ 1000000 := by rw [← bl_size, hs0, List.take_of_length_le (by omega)]; have := HZL.out; simp only [List.length_append, List.length_cons, bl_size]; omega
      clear hs0
      have hn : ¬ (k : Int) < (ps.length : Int) := by omega
      go_wp2_with fail
      go_ret
      exact ⟨ret_str HE.out, HB1.out.trans (HBW.out.mono HB1.out.size)⟩
theorem refText_any : ∀ (N : Nat), ∀ (e : Ex) (q : List Value) (w : World), e.size ≤ N → e.text.length ≤ 1000000 → Lay w w.heap.size e q → Calls Tryd.prog 31 #[.agg q.toArray] w fun r w' => r = .returned (.string ⟨e.text.toArray⟩) ∧ Below w.heap.size w w' := by
  intro N
  induction N with
  | zero => intro e; obtain ⟨op, nm, fo, ps⟩ := e; intro q w hN; simp only [Ex.size] at hN; omega
  | succ N ih => intro e; obtain ⟨op, nm, fo, ps⟩ := e; exact refText_step N ih op nm fo ps
set_option maxRecDepth 100000 in
set_option maxHeartbeats 12800000 in
theorem refShort_step (N : Nat) (HI0 : ∀ (e : Ex) (d : Nat) (q : List Value) (w : World), e.size ≤ N → d ≤ 1000 → Lay w w.heap.size e q → Calls Tryd.prog 32 #[.agg q.toArray, .int .i64 (d : Int)] w fun r w' => r = .returned (.bool (e.short d)) ∧ Below w.heap.size w w') (op nm fo : ByteArray) (ps : List Ex) : ∀ (d : Nat) (q : List Value) (w : World), (Ex.mk op nm fo ps).size ≤ N + 1 → d ≤ 1000 → Lay w w.heap.size (Ex.mk op nm fo ps) q → Calls Tryd.prog 32 #[.agg q.toArray, .int .i64 (d : Int)] w fun r w' => r = .returned (.bool ((Ex.mk op nm fo ps).short d)) ∧ Below w.heap.size w w' := by
  intro d q w hN hd hL
  obtain ⟨A, c, rfl, hs, hl⟩ := hL.open
  have HZ := Lib.hid (show sizeL ps ≤ N from by simp only [Ex.size] at hN; omega)
  simp only [Ex.op, Ex.nm, Ex.fo, Ex.ps] at hl hs ⊢
  unfold maxLen at hl
  have HI := Lib.hid HI0
  clear HI0
  obtain ⟨w1, hw1⟩ : ∃ v, v = w.alloc (.cells #[.string op, .string nm, .string fo, .slice A ps.length c] 34) := ⟨_, rfl⟩
  obtain ⟨b, hbe⟩ : ∃ v, v = w.heap.size := ⟨_, rfl⟩
  have hb1 : Below w.heap.size w w1 := by rw [hw1]; exact al _ _
  have a1 : w1.heap[b]? = some (.cells #[.string op, .string nm, .string fo, .slice A ps.length c] 34 (0, 0)) := by rw [hw1, hbe]; exact heap_alloc_new w _
  have hl1 : b < w1.heap.size := by rw [hw1, hbe]; simp
  have HC := Lib.hid (fun (w' : World) (hw' : Below w1.heap.size w1 w') => four_at ((hw'.block b hl1).trans a1))
  have HP := Lib.hid (fun (w' : World) (hw' : Below w1.heap.size w1 w') => (hs.imp (see_later (Below.step hb1 hw')) fun _ _ _ h => h.later (Below.step hb1 hw')))
  have HB1 := Lib.hid hb1
  have HW := Lib.hid hw1
  have HBE := Lib.hid hbe
  clear hw1 a1 hl1 hbe hb1 hs hL hN
  have HDM := Lib.hid hd
  clear hd
  cases d with
  | zero =>
    go_enter Tryd.func32, Tryd.ntmps32
    go_upto_region 1 with fail
    try rw [← HW.out]
    try rw [← HBE.out]
    obtain ⟨d0, d1, d2, d3⟩ := HC.out w1 (Below.refl _ _)
    clear HW
    have HV := Lib.hid (show (Ex.mk op nm fo ps).short 0 = false from by simp only [Ex.short])
    go_wp2_with fail
    go_ret
    exact ⟨ret_bool HV.out.symm, HB1.out⟩
  | succ d =>
    go_enter Tryd.func32, Tryd.ntmps32
    go_upto_region 1 with fail
    try rw [← HW.out]
    try rw [← HBE.out]
    obtain ⟨d0, d1, d2, d3⟩ := HC.out w1 (Below.refl _ _)
    clear HW
    have hd0 : ((d : Int) + 1 == 0) = false := by rw [beq_eq_false_iff_ne]; omega
    have hd1 : (((d + 1 : Nat) : Int) == 0) = false := by rw [beq_eq_false_iff_ne]; omega
    by_cases h_o : op.size ≤ 100
    · have z_o : ¬ (100 : Int) < (op.size : Int) := by omega
      by_cases h_a : nm.size ≤ 100
      · have z_a : ¬ (100 : Int) < (nm.size : Int) := by omega
        by_cases h_f : fo.size ≤ 100
        · have z_f : ¬ (100 : Int) < (fo.size : Int) := by omega
          by_cases h_n : ps.length ≤ 70
          · have z_n : ¬ (70 : Int) < (ps.length : Int) := by omega
            have HV := Lib.hid (show (Ex.mk op nm fo ps).short (d + 1) = shortL d ps from by simp [Ex.short, *])
            clear h_o h_a h_f
            go_wp2_with fail
            clear d0 d1 d2 d3 z_o z_a z_f z_n
            go_loopw [5] (fun i wr => ∃ k : Nat, k ≤ ps.length ∧ i = .int .i64 k ∧ shortL d (ps.take k) = true ∧ Below w1.heap.size w1 wr) (fun i _ => ps.length - (intOf i).toNat)
            case atStart => exact ⟨0, by omega, rfl, by simp [shortL], Below.refl _ _⟩
            case round =>
              obtain ⟨k, hk, rfl, hs0, hB⟩ := hrel
              have HBW := Lib.hid hB
              obtain ⟨d0, d1, d2, d3⟩ := HC.out wr hB
              by_cases hlt : k < ps.length
              · obtain ⟨ad, x0, x1, x2, x3, rfl, hbk, y0, y1, y2, y3, hy⟩ := (HP.out wr hB).part k hlt
                have HZT := Lib.hid (shortL_take d ps k hlt)
                have HCT := Lib.hid (shortL_cut d ps k hlt)
                have hms := size_mem (List.getElem_mem hlt)
                have hcall := HI.out ps[k] d _ wr (Nat.le_trans hms HZ.out) (by have := HDM.out; omega) hy
                have HLT := Lib.hid (Nat.not_le_of_lt hlt)
                have HS0 := Lib.hid hs0
                clear hy hms hB hbk hs0
                have hsb : wrap64 (d : Int) = (d : Int) := by have := HDM.out; simp only [wrap64]; omega
                generalize (ps[k]).short d = m2 at *
                cases m2 with
                | true =>
                  have HM := Lib.hid (show shortL d (ps.take (k + 1)) = true from by rw [HZT.out, HS0.out]; rfl)
                  go_wp2_with fail
                  (with_reducible refine hcall.mono ?_)
                  clear hcall y0 y1 y2 y3 d0 d1 d2 d3
                  rintro r' w2 ⟨rfl, hb⟩
                  have HB2 := Lib.hid (Below.step HBW.out hb)
                  clear hb
                  go_wp2_with fail
                  go_roundw
                  case rel => exact ⟨k + 1, by have := HLT.out; omega, by go_num, HM.out, HB2.out⟩
                  case measure => have := HLT.out; simp [intOf]; omega
                | false =>
                  have HM := Lib.hid (HV.out.trans (HCT.out rfl))
                  go_wp2_with fail
                  (with_reducible refine hcall.mono ?_)
                  clear hcall y0 y1 y2 y3 d0 d1 d2 d3
                  rintro r' w2 ⟨rfl, hb⟩
                  have HB2 := Lib.hid (Below.step HBW.out hb)
                  clear hb
                  go_wp2_with fail
                  go_ret
                  exact ⟨ret_bool HM.out.symm, HB1.out.trans (HB2.out.mono HB1.out.size)⟩
              · have HM := Lib.hid (show (Ex.mk op nm fo ps).short (d + 1) = true from by rw [HV.out]; rw [List.take_of_length_le (by omega)] at hs0; exact hs0)
                clear hs0
                have hn : ¬ (k : Int) < (ps.length : Int) := by omega
                go_wp2_with fail
                go_ret
                exact ⟨ret_bool HM.out.symm, HB1.out.trans (HBW.out.mono HB1.out.size)⟩
          · have z_n : (70 : Int) < (ps.length : Int) := by omega
            have HV := Lib.hid (show (Ex.mk op nm fo ps).short (d + 1) = false from by simp [Ex.short, *])
            go_wp2_with fail
            go_ret
            exact ⟨ret_bool HV.out.symm, HB1.out⟩
        · have z_f : (100 : Int) < (fo.size : Int) := by omega
          have HV := Lib.hid (show (Ex.mk op nm fo ps).short (d + 1) = false from by simp [Ex.short, *])
          go_wp2_with fail
          go_ret
          exact ⟨ret_bool HV.out.symm, HB1.out⟩
      · have z_a : (100 : Int) < (nm.size : Int) := by omega
        have HV := Lib.hid (show (Ex.mk op nm fo ps).short (d + 1) = false from by simp [Ex.short, *])
        go_wp2_with fail
        go_ret
        exact ⟨ret_bool HV.out.symm, HB1.out⟩
    · have z_o : (100 : Int) < (op.size : Int) := by omega
      have HV := Lib.hid (show (Ex.mk op nm fo ps).short (d + 1) = false from by simp [Ex.short, *])
      go_wp2_with fail
      go_ret
      exact ⟨ret_bool HV.out.symm, HB1.out⟩
theorem refShort_any : ∀ (N : Nat), ∀ (e : Ex) (d : Nat) (q : List Value) (w : World), e.size ≤ N → d ≤ 1000 → Lay w w.heap.size e q → Calls Tryd.prog 32 #[.agg q.toArray, .int .i64 (d : Int)] w fun r w' => r = .returned (.bool (e.short d)) ∧ Below w.heap.size w w' := by
  intro N
  induction N with
  | zero => intro e; obtain ⟨op, nm, fo, ps⟩ := e; intro d q w hN; simp only [Ex.size] at hN; omega
  | succ N ih => intro e; obtain ⟨op, nm, fo, ps⟩ := e; exact refShort_step N ih op nm fo ps
theorem two_at {w : World} {g : Nat} {t : TypeId} {a b : Value} (q : w.heap[g]? = some (.cells #[a, b] t (0, 0))) : w.cell? ⟨g, 0, none⟩ = some a ∧ w.cell? ⟨g, 1, none⟩ = some b := by
  refine ⟨?_, ?_⟩ <;> (simp only [World.cell?, q]; rfl)
theorem rule_at {w : World} {B : Nat} {A : Option Addr} {rs : List Rl} (h : SlOf w B 5 (LayR w B) A rs) (i : Nat) (hi : i < rs.length) :
    ∃ ad x1 x2 x3 x4, A = some ad ∧ ad.block < B ∧ w.cell? (ad.add (i * 5)) = some (.string (rs[i]).rel) ∧ w.cell? ⟨(ad.add (i * 5)).block, (ad.add (i * 5)).off + 1, none⟩ = some x1 ∧ w.cell? ⟨(ad.add (i * 5)).block, (ad.add (i * 5)).off + 2, none⟩ = some x2 ∧ w.cell? ⟨(ad.add (i * 5)).block, (ad.add (i * 5)).off + 3, none⟩ = some x3 ∧ w.cell? ⟨(ad.add (i * 5)).block, (ad.add (i * 5)).off + 4, none⟩ = some x4 ∧ Lay w B (rs[i]).e [x1, x2, x3, x4] := by
  obtain ⟨q, hq⟩ := h
  obtain ⟨⟨ad, hA, hs⟩, ⟨qe, hl, e⟩⟩ := hq i hi
  obtain ⟨A', c', he, _⟩ := hl.open
  rw [e, he] at hs
  rw [he] at hl
  exact ⟨ad, _, _, _, _, hA, by have := hs.1; rwa [blk_add] at this, hs.at0, hs.at_ 0 rfl, hs.at_ 1 rfl, hs.at_ 2 rfl, hs.at_ 3 rfl, hl⟩
set_option maxHeartbeats 6400000 in
theorem refHas_any (k : Kd) (r : ByteArray) (q : List Value) (w : World) (hK : LayK w w.heap.size k q) :
    Calls Tryd.prog 55 #[.agg q.toArray, .string r] w fun e w' => e = .returned (.bool (k.has r)) ∧ Below w.heap.size w w' := by
  obtain ⟨A, c, rfl, hs, hl⟩ := hK
  obtain ⟨nm, rs⟩ := k
  simp only at hs hl ⊢
  unfold maxLen at hl
  obtain ⟨w1, hw1⟩ : ∃ v, v = w.alloc (.cells #[.string nm, .slice A rs.length c] 42) := ⟨_, rfl⟩
  obtain ⟨b, hbe⟩ : ∃ v, v = w.heap.size := ⟨_, rfl⟩
  have hb1 : Below w.heap.size w w1 := by rw [hw1]; exact al _ _
  have a1 : w1.heap[b]? = some (.cells #[.string nm, .slice A rs.length c] 42 (0, 0)) := by rw [hw1, hbe]; exact heap_alloc_new w _
  obtain ⟨d0, d1⟩ := two_at a1
  have HP := Lib.hid (hs.imp (see_later hb1) fun _ _ _ h => h.imp (see_later hb1))
  have HB1 := Lib.hid hb1
  have HW := Lib.hid hw1
  have HBE := Lib.hid hbe
  have HAS := Lib.hid (show (Kd.mk nm rs).has r = rs.any (fun x => decide (x.rel = r)) from rfl)
  clear hw1 hbe hb1 hs a1
  go_enter Tryd.func55, Tryd.ntmps55
  go_upto_region 1 with fail
  try rw [← HW.out]
  try rw [← HBE.out]
  clear HW
  go_wp2_with fail
  go_loopw [5] (fun i wr => ∃ m : Nat, m ≤ rs.length ∧ i = .int .i64 m ∧ (∀ j (_ : j < m) (h : j < rs.length), (rs[j]).rel ≠ r) ∧ w1 = wr) (fun i _ => rs.length - (intOf i).toNat)
  case atStart => exact ⟨0, by omega, rfl, fun j hj => by omega, rfl⟩
  case round =>
    obtain ⟨m, hm, rfl, hpre, rfl⟩ := hrel
    have HPRE := Lib.hid hpre
    clear hpre
    by_cases hlt : m < rs.length
    · obtain ⟨ad, x1, x2, x3, x4, rfl, hbk, y0, _⟩ := rule_at HP.out m hlt
      have HLT := Lib.hid (Nat.not_le_of_lt hlt)
      have hq := Str.ba_beq (rs[m]).rel r
      by_cases he : (rs[m]).rel = r
      · rw [decide_eq_true he] at hq
        have HM := Lib.hid (show (Kd.mk nm rs).has r = true from by rw [HAS.out, List.any_eq_true]; exact ⟨rs[m], List.getElem_mem hlt, decide_eq_true he⟩)
        clear he
        go_wp2_with fail
        go_ret
        exact ⟨ret_bool HM.out.symm, HB1.out⟩
      · rw [decide_eq_false he] at hq
        have HM := Lib.hid (show ∀ j (_ : j < m + 1) (h : j < rs.length), (rs[j]).rel ≠ r from fun j hj h => by
          rcases Nat.lt_or_ge j m with g | g
          · exact HPRE.out j g h
          · obtain rfl : j = m := by omega
            exact he)
        clear he
        go_wp2_with fail
        go_roundw
        case rel => exact ⟨m + 1, by have := HLT.out; omega, by go_num, HM.out, trivial⟩
        case measure => have := HLT.out; simp [intOf]; omega
    · have HM := Lib.hid (show (Kd.mk nm rs).has r = false from by
        rw [HAS.out, Bool.eq_false_iff]
        intro h
        obtain ⟨x, hx, he⟩ := List.any_eq_true.1 h
        obtain ⟨j, hj, rfl⟩ := List.mem_iff_getElem.1 hx
        exact HPRE.out j (by omega) hj (of_decide_eq_true he))
      have hn : ¬ (m : Int) < (rs.length : Int) := by omega
      go_wp2_with fail
      go_ret
      exact ⟨ret_bool HM.out.symm, HB1.out⟩
set_option maxHeartbeats 6400000 in
theorem refName12_any (s : ByteArray) (w : World) (hs : s.size ≤ 1000000) :
    Calls Tryd.prog 28 #[.string s] w fun e w' => e = .returned (.bool (nameR s)) ∧ w = w' := by
  have hc := fun w => refName_any s w hs
  have HV := Lib.hid (show nameR s = (nameL (bl s) && !(decide (s = kThis) || decide (s = kOr) || decide (s = kAnd) || decide (s = kBut) || decide (s = kFrom) || decide (s = kKind))) from rfl)
  generalize nameL (bl s) = b1 at *
  go_enter Tryd.func28, Tryd.ntmps28
  cases b1 with
  | false =>
    go_wp2_with fail
    (with_reducible refine (hc _).mono ?_)
    rintro e w' ⟨rfl, rfl⟩
    go_wp2_with fail
    go_ret
    exact ⟨ret_bool (by rw [HV.out]; rfl), rfl⟩
  | true =>
    have q_this := tl_this s
    by_cases n_this : s = kThis
    · rw [decide_eq_true n_this] at q_this
      have HM := Lib.hid (show nameR s = false from by rw [HV.out, n_this]; decide)
      clear n_this
      go_wp2_with fail
      (with_reducible refine (hc _).mono ?_)
      rintro e w' ⟨rfl, rfl⟩
      go_wp2_with fail
      go_ret
      exact ⟨ret_bool HM.out.symm, rfl⟩
    rw [decide_eq_false n_this] at q_this
    have q_or := tl_or s
    by_cases n_or : s = kOr
    · rw [decide_eq_true n_or] at q_or
      have HM := Lib.hid (show nameR s = false from by rw [HV.out, n_or]; decide)
      clear n_this n_or
      go_wp2_with fail
      (with_reducible refine (hc _).mono ?_)
      rintro e w' ⟨rfl, rfl⟩
      go_wp2_with fail
      go_ret
      exact ⟨ret_bool HM.out.symm, rfl⟩
    rw [decide_eq_false n_or] at q_or
    have q_and := tl_and s
    by_cases n_and : s = kAnd
    · rw [decide_eq_true n_and] at q_and
      have HM := Lib.hid (show nameR s = false from by rw [HV.out, n_and]; decide)
      clear n_this n_or n_and
      go_wp2_with fail
      (with_reducible refine (hc _).mono ?_)
      rintro e w' ⟨rfl, rfl⟩
      go_wp2_with fail
      go_ret
      exact ⟨ret_bool HM.out.symm, rfl⟩
    rw [decide_eq_false n_and] at q_and
    have q_but := tl_but s
    by_cases n_but : s = kBut
    · rw [decide_eq_true n_but] at q_but
      have HM := Lib.hid (show nameR s = false from by rw [HV.out, n_but]; decide)
      clear n_this n_or n_and n_but
      go_wp2_with fail
      (with_reducible refine (hc _).mono ?_)
      rintro e w' ⟨rfl, rfl⟩
      go_wp2_with fail
      go_ret
      exact ⟨ret_bool HM.out.symm, rfl⟩
    rw [decide_eq_false n_but] at q_but
    have q_from := tl_from s
    by_cases n_from : s = kFrom
    · rw [decide_eq_true n_from] at q_from
      have HM := Lib.hid (show nameR s = false from by rw [HV.out, n_from]; decide)
      clear n_this n_or n_and n_but n_from
      go_wp2_with fail
      (with_reducible refine (hc _).mono ?_)
      rintro e w' ⟨rfl, rfl⟩
      go_wp2_with fail
      go_ret
      exact ⟨ret_bool HM.out.symm, rfl⟩
    rw [decide_eq_false n_from] at q_from
    have q_kind := tl_kind s
    by_cases n_kind : s = kKind
    · rw [decide_eq_true n_kind] at q_kind
      have HM := Lib.hid (show nameR s = false from by rw [HV.out, n_kind]; decide)
      clear n_this n_or n_and n_but n_from n_kind
      go_wp2_with fail
      (with_reducible refine (hc _).mono ?_)
      rintro e w' ⟨rfl, rfl⟩
      go_wp2_with fail
      go_ret
      exact ⟨ret_bool HM.out.symm, rfl⟩
    rw [decide_eq_false n_kind] at q_kind
    have HM := Lib.hid (show nameR s = true from by simp [HV.out, *])
    clear n_this n_or n_and n_but n_from n_kind
    go_wp2_with fail
    (with_reducible refine (hc _).mono ?_)
    rintro e w' ⟨rfl, rfl⟩
    go_wp2_with fail
    go_ret
    exact ⟨ret_bool HM.out.symm, rfl⟩
theorem cells4_later {w w' : World} {ad : Addr} {i : Nat} {x0 x1 x2 x3 : Value} (hbk : ad.block < w.heap.size) (y0 : w.cell? (ad.add i) = some x0) (y1 : w.cell? ⟨(ad.add i).block, (ad.add i).off + 1, none⟩ = some x1) (y2 : w.cell? ⟨(ad.add i).block, (ad.add i).off + 2, none⟩ = some x2) (y3 : w.cell? ⟨(ad.add i).block, (ad.add i).off + 3, none⟩ = some x3) (hb : Below w.heap.size w w') :
    w'.cell? (ad.add i) = some x0 ∧ w'.cell? ⟨(ad.add i).block, (ad.add i).off + 1, none⟩ = some x1 ∧ w'.cell? ⟨(ad.add i).block, (ad.add i).off + 2, none⟩ = some x2 ∧ w'.cell? ⟨(ad.add i).block, (ad.add i).off + 3, none⟩ = some x3 := by
  have k : (ad.add i).block < w.heap.size := by rw [blk_add]; exact hbk
  exact ⟨(hb.cell k).trans y0, (hb.cell (p := ⟨(ad.add i).block, _, none⟩) k).trans y1, (hb.cell (p := ⟨(ad.add i).block, _, none⟩) k).trans y2, (hb.cell (p := ⟨(ad.add i).block, _, none⟩) k).trans y3⟩
set_option maxRecDepth 100000 in
set_option maxHeartbeats 12800000 in
theorem refNamed_step (k : Kd) (qk : List Value) (N : Nat) (HI0 : ∀ (e : Ex) (q : List Value) (w : World), e.size ≤ N → e.slim = true → LayK w w.heap.size k qk → Lay w w.heap.size e q → Calls Tryd.prog 30 #[.agg qk.toArray, .agg q.toArray] w fun r w' => r = .returned (.bool (e.named k)) ∧ Below w.heap.size w w') (op nm fo : ByteArray) (ps : List Ex) : ∀ (q : List Value) (w : World), (Ex.mk op nm fo ps).size ≤ N + 1 → (Ex.mk op nm fo ps).slim = true → LayK w w.heap.size k qk → Lay w w.heap.size (Ex.mk op nm fo ps) q → Calls Tryd.prog 30 #[.agg qk.toArray, .agg q.toArray] w fun r w' => r = .returned (.bool ((Ex.mk op nm fo ps).named k)) ∧ Below w.heap.size w w' := by
  intro q w hN hd hK hL
  obtain ⟨A, c, rfl, hs, hl⟩ := hL.open
  have HZ := Lib.hid (show sizeL ps ≤ N from by simp only [Ex.size] at hN; omega)
  simp only [Ex.op, Ex.nm, Ex.fo, Ex.ps] at hl hs ⊢
  unfold maxLen at hl
  have HI := Lib.hid HI0
  clear HI0
  have HD := Lib.hid (show (Ex.mk op nm fo ps).named k = (namedS k op nm fo && namedL k ps) from by simp only [Ex.named])
  have HSL := Lib.hid (show nm.size ≤ 1000000 ∧ slimL ps = true from by simp only [Ex.slim, Bool.and_eq_true, decide_eq_true_eq] at hd; exact ⟨hd.1.1.1.2, hd.2⟩)
  clear hd
  have hK0 := hK
  obtain ⟨Ak, ck, rfl, hks, hkl⟩ := hK
  clear hks hkl
  obtain ⟨w0, hw0⟩ : ∃ v, v = w.alloc (.cells #[.string k.name, .slice Ak k.rules.length ck] 42) := ⟨_, rfl⟩
  obtain ⟨b0, hb0e⟩ : ∃ v, v = w.heap.size := ⟨_, rfl⟩
  have hb0 : Below w.heap.size w w0 := by rw [hw0]; exact al _ _
  have a0 : w0.heap[b0]? = some (.cells #[.string k.name, .slice Ak k.rules.length ck] 42 (0, 0)) := by rw [hw0, hb0e]; exact heap_alloc_new w _
  have s0 : w0.heap.size = b0 + 1 := by rw [hw0, hb0e]; simp
  obtain ⟨w1, hw1⟩ : ∃ v, v = w0.alloc (.cells #[.string op, .string nm, .string fo, .slice A ps.length c] 34) := ⟨_, rfl⟩
  have hb01 : Below w0.heap.size w0 w1 := by rw [hw1]; exact al _ _
  have hb1 : Below w.heap.size w w1 := Below.step hb0 hb01
  have a1 : w1.heap[b0 + 1]? = some (.cells #[.string op, .string nm, .string fo, .slice A ps.length c] 34 (0, 0)) := by rw [hw1, ← s0]; exact heap_alloc_new w0 _
  have a0' : w1.heap[b0]? = some (.cells #[.string k.name, .slice Ak k.rules.length ck] 42 (0, 0)) := (hb01.block b0 (by omega)).trans a0
  have hl1 : b0 + 1 < w1.heap.size := by rw [hw1]; simp [s0]
  have HC := Lib.hid (fun (w' : World) (hw' : Below w1.heap.size w1 w') => four_at ((hw'.block (b0 + 1) hl1).trans a1))
  have HKC := Lib.hid (fun (w' : World) (hw' : Below w1.heap.size w1 w') => two_at ((hw'.block b0 (by omega)).trans a0'))
  have HP := Lib.hid (fun (w' : World) (hw' : Below w1.heap.size w1 w') => (hs.imp (see_later (Below.step hb1 hw')) fun _ _ _ h => h.later (Below.step hb1 hw')))
  have HK := Lib.hid (fun (w' : World) (hw' : Below w1.heap.size w1 w') => hK0.later (Below.step hb1 hw'))
  have HB1 := Lib.hid hb1
  have HW0 := Lib.hid hw0
  have HW := Lib.hid hw1
  have HBE := Lib.hid hb0e
  have HS0 := Lib.hid s0
  clear hw0 hw1 hb0e hb0 a0 s0 hb01 hb1 a1 a0' hl1 hs hL hN hK0
  go_enter Tryd.func30, Tryd.ntmps30
  go_upto_region 1 with fail
  try rw [← HW0.out]
  try rw [← HW.out]
  try rw [← HBE.out]
  try rw [HS0.out]
  clear HW HW0
  obtain ⟨d0, d1, d2, d3⟩ := HC.out w1 (Below.refl _ _)
  obtain ⟨k0, k1⟩ := HKC.out w1 (Below.refl _ _)
  have q_rel := tl_rel op
  go_cut [5] from 7 to 15 (fun s5 wx => s5 = .bool (if op = kRel then k.has nm else true) ∧ Below w1.heap.size w1 wx)
  case first =>
    by_cases hop : op = kRel
    · rw [decide_eq_true hop] at q_rel
      have HV := Lib.hid (show (if op = kRel then k.has nm else true) = k.has nm from if_pos hop)
      have hcall := refHas_any k nm _ w1 (HK.out w1 (Below.refl _ _))
      clear hop
      go_wp2_with fail
      (with_reducible refine hcall.mono ?_)
      clear hcall d0 d1 d2 d3 k0 k1
      rintro r' w2 ⟨rfl, hb⟩
      have HB2 := Lib.hid hb
      clear hb
      obtain ⟨d0, d1, d2, d3⟩ := HC.out w2 HB2.out
      obtain ⟨k0, k1⟩ := HKC.out w2 HB2.out
      go_wp2_with fail
      go_meet
      exact ⟨by rw [HV.out], HB2.out⟩
    · rw [decide_eq_false hop] at q_rel
      have HV := Lib.hid (show (if op = kRel then k.has nm else true) = true from if_neg hop)
      clear hop
      go_wp2_with fail
      go_meet
      exact ⟨by rw [HV.out], Below.refl _ _⟩
  case rest =>
    obtain ⟨rfl, hbw⟩ := hcut
    clear d0 d1 d2 d3 k0 k1 q_rel
    have HBC := Lib.hid hbw
    clear hbw
    generalize hb5 : (if op = kRel then k.has nm else true) = b5 at *
    have HB5 := Lib.hid hb5
    clear hb5
    obtain ⟨d0, d1, d2, d3⟩ := HC.out wc HBC.out
    obtain ⟨k0, k1⟩ := HKC.out wc HBC.out
    have q_from := tl_from op
    obtain ⟨df, hdf⟩ : ∃ v, decide (op = kFrom) = v := ⟨_, rfl⟩
    rw [hdf] at q_from
    have HDF := Lib.hid hdf
    clear hdf
    go_upto_if 18 with fail
    clear q_from
    go_cut [5] from 19 to 27 (fun s5 wx => s5 = .bool (namedS k op nm fo) ∧ Below w1.heap.size w1 wx)
    case first =>
      cases df with
      | true =>
        have hop := of_decide_eq_true HDF.out
        have hcall := refHas_any k fo _ wc (HK.out wc HBC.out)
        have HV := Lib.hid (show namedS k op nm fo = (k.has fo && nameR nm) from by rw [namedS, if_pos hop])
        clear hop
        obtain ⟨bh, hbh⟩ : ∃ v, k.has fo = v := ⟨_, rfl⟩
        rw [hbh] at hcall
        have HBH := Lib.hid hbh
        clear hbh
        go_wp2_with fail
        (with_reducible refine hcall.mono ?_)
        clear hcall d0 d1 d2 d3 k0 k1
        rintro r' w2 ⟨rfl, hb⟩
        have HB2 := Lib.hid (Below.step HBC.out hb)
        clear hb
        obtain ⟨d0, d1, d2, d3⟩ := HC.out w2 HB2.out
        obtain ⟨k0, k1⟩ := HKC.out w2 HB2.out
        cases bh with
        | false =>
          go_wp2_with fail
          go_meet
          exact ⟨by rw [HV.out, HBH.out]; rfl, HB2.out⟩
        | true =>
          have hcall := refName12_any nm w2 HSL.out.1
          go_wp2_with fail
          (with_reducible refine hcall.mono ?_)
          clear hcall
          rintro r' w3 ⟨rfl, rfl⟩
          go_wp2_with fail
          go_meet
          exact ⟨by rw [HV.out, HBH.out]; rfl, HB2.out⟩
      | false =>
        have hop := of_decide_eq_false HDF.out
        have HV := Lib.hid (show namedS k op nm fo = b5 from by rw [namedS, if_neg hop, HB5.out])
        clear hop
        go_wp2_with fail
        go_meet
        exact ⟨by rw [HV.out], HBC.out⟩
    case rest =>
      obtain ⟨rfl, hbw⟩ := hcut
      clear d0 d1 d2 d3 k0 k1 HBC HB5
      have HBC := Lib.hid hbw
      clear hbw
      generalize hfs : namedS k op nm fo = fs at *
      clear hfs
      generalize wc = wa at *
      go_wp2_with fail
      go_loopw [5, 6] (fun n i wr => ∃ j : Nat, j ≤ ps.length ∧ i = .int .i64 j ∧ n = .bool (fs && namedL k (ps.take j)) ∧ Below w1.heap.size w1 wr) (fun _ i _ => ps.length - (intOf i).toNat)
      case atStart => exact ⟨0, by omega, rfl, by simp [namedL], HBC.out⟩
      case round =>
        obtain ⟨j, hk, rfl, rfl, hB⟩ := hrel
        have HBW := Lib.hid hB
        obtain ⟨d0, d1, d2, d3⟩ := HC.out wr hB
        obtain ⟨k0, k1⟩ := HKC.out wr hB
        by_cases hlt : j < ps.length
        · obtain ⟨ad, x0, x1, x2, x3, rfl, hbk, y0, y1, y2, y3, hy⟩ := (HP.out wr hB).part j hlt
          have HZT := Lib.hid (namedL_take k ps j hlt)
          have hms := size_mem (List.getElem_mem hlt)
          have HSM := Lib.hid (slimL_mem (List.getElem_mem hlt) HSL.out.2)
          have HI9 := Lib.hid (fun (w' : World) (hw' : Below wr.heap.size wr w') => HI.out ps[j] _ w' (Nat.le_trans hms HZ.out) HSM.out (HK.out w' (Below.step hB hw')) (hy.later hw'))
          have HSV := Lib.hid (fun (w' : World) (hw' : Below wr.heap.size wr w') => And.intro (HC.out _ (Below.step hB hw')) (And.intro (HKC.out _ (Below.step hB hw')) (cells4_later hbk y0 y1 y2 y3 hw')))
          have HLT := Lib.hid (Nat.not_le_of_lt hlt)
          have HLJ := Lib.hid (show (j : Int) < (ps.length : Int) from by omega)
          clear hy hms hB HSM hbk
          generalize namedL k (ps.take j) = m0 at *
          generalize (ps[j]).named k = m2 at *
          obtain ⟨u, hu⟩ : ∃ u, u = (fs && m0) := ⟨_, rfl⟩
          rw [← hu]
          have HM := Lib.hid (show (fs && namedL k (ps.take (j + 1))) = (u && m2) from by rw [HZT.out, hu, Bool.and_assoc])
          clear hu
          cases u with
          | true =>
            go_upto_region 7 with fail
            clear d0 d1 d2 d3 k0 k1 y0 y1 y2 y3
            refine wp_region_any (by kernel_rfl) ?_
            change wpAny _ _ _ _ _ _ _ (World.drew _)
            refine Held.any_of_G (S := (fun w' : World => (w'.cell? ⟨b0 + 1, 0, none⟩ = some (.string op) ∧ w'.cell? ⟨b0 + 1, 1, none⟩ = some (.string nm) ∧ w'.cell? ⟨b0 + 1, 2, none⟩ = some (.string fo) ∧ w'.cell? ⟨b0 + 1, 3, none⟩ = some (.slice (some ad) ps.length c)) ∧ (w'.cell? ⟨b0, 0, none⟩ = some (.string k.name) ∧ w'.cell? ⟨b0, 1, none⟩ = some (.slice Ak k.rules.length ck)) ∧ (w'.cell? (ad.add (j * 4)) = some x0 ∧ w'.cell? ⟨(ad.add (j * 4)).block, (ad.add (j * 4)).off + 1, none⟩ = some x1 ∧ w'.cell? ⟨(ad.add (j * 4)).block, (ad.add (j * 4)).off + 2, none⟩ = some x2 ∧ w'.cell? ⟨(ad.add (j * 4)).block, (ad.add (j * 4)).off + 3, none⟩ = some x3))) (z := 10) _ _ _ _ ?_
            refine Held.G_take (i := 0) (d := 35) (v := ?_) [0, 1, 2, 3, 4, 5, 6, 7, 8, 9, 10] rfl rfl (by kernel_rfl) (by kernel_rfl) (by kernel_rfl) (by kernel_rfl) (fun _ _ _ h => h) (Or.inl ⟨by rfl, ?_⟩) (HSV.out _ (show Below wr.heap.size wr (World.drew wr) from (Below.refl _ _).drew)) ?_
            rotate_left 1
            · intro w hSw; clear hSw; go_simp <;> with_reducible rfl
            simp only [Act.put, List.setIfInBounds_toArray, List.set_cons_zero, List.set_cons_succ]
            refine Held.G_take (i := 1) (d := 36) (v := ?_) [1, 2, 3, 4, 5, 6, 7, 8, 9, 10] rfl rfl (by kernel_rfl) (by kernel_rfl) (by kernel_rfl) (by kernel_rfl) (fun _ _ _ h => h) (Or.inl ⟨by rfl, ?_⟩) (HSV.out _ (show Below wr.heap.size wr (World.drew wr) from (Below.refl _ _).drew)) ?_
            rotate_left 1
            · intro w hSw; clear hSw; go_simp <;> with_reducible rfl
            simp only [Act.put, List.setIfInBounds_toArray, List.set_cons_zero, List.set_cons_succ]
            refine Held.G_take (i := 2) (d := 37) (v := ?_) [2, 8, 9, 10] rfl rfl (by kernel_rfl) (by kernel_rfl) (by kernel_rfl) (by kernel_rfl) (fun _ _ _ h => h) (Or.inl ⟨by rfl, ?_⟩) (HSV.out _ (show Below wr.heap.size wr (World.drew wr) from (Below.refl _ _).drew)) ?_
            rotate_left 1
            · intro w hSw; obtain ⟨⟨d0, d1, d2, d3⟩, ⟨k0, k1⟩, y0, y1, y2, y3⟩ := hSw; go_simp <;> with_reducible rfl
            simp only [Act.put, List.setIfInBounds_toArray, List.set_cons_zero, List.set_cons_succ]
            refine Held.G_take (i := 3) (d := 38) (v := ?_) [3, 4, 6, 7, 8, 9, 10] rfl rfl (by kernel_rfl) (by kernel_rfl) (by kernel_rfl) (by kernel_rfl) (fun _ _ _ h => h) (Or.inl ⟨by rfl, ?_⟩) (HSV.out _ (show Below wr.heap.size wr (World.drew wr) from (Below.refl _ _).drew)) ?_
            rotate_left 1
            · intro w hSw; clear hSw; go_simp <;> with_reducible rfl
            simp only [Act.put, List.setIfInBounds_toArray, List.set_cons_zero, List.set_cons_succ]
            refine Held.G_take (i := 4) (d := 39) (v := ?_) [4, 6, 7, 8, 9, 10] rfl rfl (by kernel_rfl) (by kernel_rfl) (by kernel_rfl) (by kernel_rfl) (fun _ _ _ h => h) (Or.inl ⟨by rfl, ?_⟩) (HSV.out _ (show Below wr.heap.size wr (World.drew wr) from (Below.refl _ _).drew)) ?_
            rotate_left 1
            · intro w hSw; obtain ⟨⟨d0, d1, d2, d3⟩, ⟨k0, k1⟩, y0, y1, y2, y3⟩ := hSw; go_simp <;> with_reducible rfl
            simp only [Act.put, List.setIfInBounds_toArray, List.set_cons_zero, List.set_cons_succ]
            refine Held.G_take (i := 5) (d := 40) (v := ?_) [5, 6, 7, 8, 9, 10] rfl rfl (by kernel_rfl) (by kernel_rfl) (by kernel_rfl) (by kernel_rfl) (fun _ _ _ h => h) (Or.inl ⟨by rfl, ?_⟩) (HSV.out _ (show Below wr.heap.size wr (World.drew wr) from (Below.refl _ _).drew)) ?_
            rotate_left 1
            · intro w hSw; clear hSw; go_simp <;> with_reducible rfl
            simp only [Act.put, List.setIfInBounds_toArray, List.set_cons_zero, List.set_cons_succ]
            refine Held.G_take (i := 6) (d := 41) (v := ?_) [6, 7, 8, 9, 10] rfl rfl (by kernel_rfl) (by kernel_rfl) (by kernel_rfl) (by kernel_rfl) (fun _ _ _ h => h) (Or.inl ⟨by rfl, ?_⟩) (HSV.out _ (show Below wr.heap.size wr (World.drew wr) from (Below.refl _ _).drew)) ?_
            rotate_left 1
            · intro w hSw; clear hSw; go_simp <;> with_reducible rfl
            simp only [Act.put, List.setIfInBounds_toArray, List.set_cons_zero, List.set_cons_succ]
            refine Held.G_take (i := 7) (d := 42) (v := ?_) [7, 8, 9, 10] rfl rfl (by kernel_rfl) (by kernel_rfl) (by kernel_rfl) (by kernel_rfl) (fun _ _ _ h => h) (Or.inl ⟨by rfl, ?_⟩) (HSV.out _ (show Below wr.heap.size wr (World.drew wr) from (Below.refl _ _).drew)) ?_
            rotate_left 1
            · intro w hSw; obtain ⟨⟨d0, d1, d2, d3⟩, ⟨k0, k1⟩, y0, y1, y2, y3⟩ := hSw; go_simp <;> with_reducible rfl
            simp only [Act.put, List.setIfInBounds_toArray, List.set_cons_zero, List.set_cons_succ]
            refine Held.G_ready (rs := [8]) (by decide +kernel) (by simp) ?_
            refine Held.G_cons rfl (fun KK hK => ?_) Held.G_nil
            go_simp
            have hcall := HI9.out _ (show Below wr.heap.size wr (World.drew wr) from (Below.refl _ _).drew)
            (with_reducible refine hcall.mono ?_)
            clear hcall
            rintro e w9 ⟨rfl, hb⟩
            have hq : Below wr.heap.size wr w9 := Below.step (show Below wr.heap.size wr (World.drew wr) from (Below.refl _ _).drew) hb
            clear hb
            go_simp
            refine hK _ _ ?_
            clear hK KK
            refine ⟨(HSV.out _ hq), ?_⟩
            refine Held.G_take (i := 9) (d := 44) (v := ?_) [9, 10] rfl rfl (by kernel_rfl) (by kernel_rfl) (by kernel_rfl) (by kernel_rfl) (fun _ _ _ h => h) (Or.inl ⟨by rfl, ?_⟩) (HSV.out _ hq) ?_
            rotate_left 1
            · intro w hSw; clear hSw; go_simp <;> with_reducible rfl
            simp only [Act.put, List.setIfInBounds_toArray, List.set_cons_zero, List.set_cons_succ]
            refine Held.G_ready (rs := [10]) (by decide +kernel) (by simp) ?_
            refine Held.G_last rfl (fun KK hK => ?_) Held.G_nil
            go_simp
            refine hK _ _ ?_
            clear hK KK
            refine Held.G_done (by kernel_rfl) ?_ _
            have HB2 := Lib.hid (Below.step HBW.out hq)
            clear hq
            go_wp2_with fail
            go_roundw
            case rel => exact ⟨j + 1, by have := HLT.out; omega, by go_num, by rw [HM.out]; rfl, HB2.out⟩
            case measure => have := HLT.out; simp [intOf]; omega
          | false =>
            go_upto_region 7 with fail
            clear d0 d1 d2 d3 k0 k1 y0 y1 y2 y3
            refine wp_region_any (by kernel_rfl) ?_
            change wpAny _ _ _ _ _ _ _ (World.drew _)
            refine Reg.take_at (i := 0) (d := 35) (v := ?_) rfl rfl (by kernel_rfl) (by kernel_rfl) (by kernel_rfl) (fun _ _ _ h => h) (Or.inl ⟨by rfl, ?_⟩) ?_
            rotate_left 1
            · intro w; go_simp <;> with_reducible rfl
            simp only [Act.put, List.setIfInBounds_toArray, List.set_cons_zero, List.set_cons_succ]
            refine Reg.take_at (i := 1) (d := 36) (v := ?_) rfl rfl (by kernel_rfl) (by kernel_rfl) (by kernel_rfl) (fun _ _ _ h => h) (Or.inl ⟨by rfl, ?_⟩) ?_
            rotate_left 1
            · intro w; go_simp <;> with_reducible rfl
            simp only [Act.put, List.setIfInBounds_toArray, List.set_cons_zero, List.set_cons_succ]
            refine Reg.take_at (i := 2) (d := 37) (v := undef) rfl rfl (by kernel_rfl) (by kernel_rfl) (by kernel_rfl) (fun _ _ _ h => h) (Or.inr ⟨by rfl, rfl⟩) ?_
            simp only [Act.put, List.setIfInBounds_toArray, List.set_cons_zero, List.set_cons_succ]
            refine Reg.take_at (i := 3) (d := 38) (v := undef) rfl rfl (by kernel_rfl) (by kernel_rfl) (by kernel_rfl) (fun _ _ _ h => h) (Or.inr ⟨by rfl, rfl⟩) ?_
            simp only [Act.put, List.setIfInBounds_toArray, List.set_cons_zero, List.set_cons_succ]
            refine Reg.take_at (i := 4) (d := 39) (v := undef) rfl rfl (by kernel_rfl) (by kernel_rfl) (by kernel_rfl) (fun _ _ _ h => h) (Or.inr ⟨by rfl, rfl⟩) ?_
            simp only [Act.put, List.setIfInBounds_toArray, List.set_cons_zero, List.set_cons_succ]
            refine Reg.take_at (i := 5) (d := 40) (v := undef) rfl rfl (by kernel_rfl) (by kernel_rfl) (by kernel_rfl) (fun _ _ _ h => h) (Or.inr ⟨by rfl, rfl⟩) ?_
            simp only [Act.put, List.setIfInBounds_toArray, List.set_cons_zero, List.set_cons_succ]
            refine Reg.take_at (i := 6) (d := 41) (v := undef) rfl rfl (by kernel_rfl) (by kernel_rfl) (by kernel_rfl) (fun _ _ _ h => h) (Or.inr ⟨by rfl, rfl⟩) ?_
            simp only [Act.put, List.setIfInBounds_toArray, List.set_cons_zero, List.set_cons_succ]
            refine Reg.take_at (i := 7) (d := 42) (v := undef) rfl rfl (by kernel_rfl) (by kernel_rfl) (by kernel_rfl) (fun _ _ _ h => h) (Or.inr ⟨by rfl, rfl⟩) ?_
            simp only [Act.put, List.setIfInBounds_toArray, List.set_cons_zero, List.set_cons_succ]
            refine Reg.take_at (i := 8) (d := 43) (v := undef) rfl rfl (by kernel_rfl) (by kernel_rfl) (by kernel_rfl) (fun _ _ _ h => h) (Or.inr ⟨by rfl, rfl⟩) ?_
            simp only [Act.put, List.setIfInBounds_toArray, List.set_cons_zero, List.set_cons_succ]
            refine Reg.take_at (i := 9) (d := 44) (v := ?_) rfl rfl (by kernel_rfl) (by kernel_rfl) (by kernel_rfl) (fun _ _ _ h => h) (Or.inl ⟨by rfl, ?_⟩) ?_
            rotate_left 1
            · intro w; go_simp <;> with_reducible rfl
            simp only [Act.put, List.setIfInBounds_toArray, List.set_cons_zero, List.set_cons_succ]
            refine Reg.take_at (i := 10) (d := 5) (v := ?_) rfl rfl (by kernel_rfl) (by kernel_rfl) (by kernel_rfl) (fun _ _ _ h => h) (Or.inl ⟨by rfl, ?_⟩) ?_
            rotate_left 1
            · intro w; go_simp <;> with_reducible rfl
            simp only [Act.put, List.setIfInBounds_toArray, List.set_cons_zero, List.set_cons_succ]
            refine wpAny_done (by kernel_rfl) ?_ _
            have HB2 := Lib.hid (Below.step HBW.out (show Below wr.heap.size wr (World.drew wr) from (Below.refl _ _).drew))
            go_wp2_with fail
            go_roundw
            case rel => exact ⟨j + 1, by have := HLT.out; omega, by go_num, by rw [HM.out]; rfl, HB2.out⟩
            case measure => have := HLT.out; simp [intOf]; omega
        · have HE := Lib.hid (show (fs && namedL k (ps.take j)) = (Ex.mk op nm fo ps).named k from by rw [List.take_of_length_le (by omega), HD.out])
          rw [HE.out]
          have hn : ¬ (j : Int) < (ps.length : Int) := by omega
          generalize hG : (Ex.mk op nm fo ps).named k = m at *
          have HG := Lib.hid hG
          clear hG
          go_wp2_with fail
          go_ret
          exact ⟨ret_bool HG.out.symm, HB1.out.trans (HBW.out.mono HB1.out.size)⟩
theorem refNamed_any (k : Kd) (qk : List Value) : ∀ (N : Nat), ∀ (e : Ex) (q : List Value) (w : World), e.size ≤ N → e.slim = true → LayK w w.heap.size k qk → Lay w w.heap.size e q → Calls Tryd.prog 30 #[.agg qk.toArray, .agg q.toArray] w fun r w' => r = .returned (.bool (e.named k)) ∧ Below w.heap.size w w' := by
  intro N
  induction N with
  | zero => intro e; obtain ⟨op, nm, fo, ps⟩ := e; intro q w hN; simp only [Ex.size] at hN; omega
  | succ N ih => intro e; obtain ⟨op, nm, fo, ps⟩ := e; exact refNamed_step k qk N ih op nm fo ps
set_option maxRecDepth 100000 in
set_option maxHeartbeats 12800000 in
theorem refSame_step (N : Nat) (HI0 : ∀ (e : Ex) (q : List Value) (e' : Ex) (q' : List Value) (w : World), e.size ≤ N → Lay w w.heap.size e q → Lay w w.heap.size e' q' → Calls Tryd.prog 38 #[.agg q.toArray, .agg q'.toArray] w fun r w' => r = .returned (.bool (Ex.beq e e')) ∧ Below w.heap.size w w') (op nm fo : ByteArray) (ps : List Ex) : ∀ (q : List Value) (e' : Ex) (q' : List Value) (w : World), (Ex.mk op nm fo ps).size ≤ N + 1 → Lay w w.heap.size (Ex.mk op nm fo ps) q → Lay w w.heap.size e' q' → Calls Tryd.prog 38 #[.agg q.toArray, .agg q'.toArray] w fun r w' => r = .returned (.bool (Ex.beq (Ex.mk op nm fo ps) e')) ∧ Below w.heap.size w w' := by
  intro q e' q' w hN hL hL'
  obtain ⟨A, c, rfl, hs, hl⟩ := hL.open
  have HZ := Lib.hid (show sizeL ps ≤ N from by simp only [Ex.size] at hN; omega)
  simp only [Ex.op, Ex.nm, Ex.fo, Ex.ps] at hl hs ⊢
  unfold maxLen at hl
  have HI := Lib.hid HI0
  clear HI0
  obtain ⟨op', nm', fo', ps'⟩ := e'
  obtain ⟨A', c', rfl, hs', hl'⟩ := hL'.open
  simp only [Ex.op, Ex.nm, Ex.fo, Ex.ps] at hl' hs' ⊢
  unfold maxLen at hl'
  obtain ⟨w0, hw0⟩ : ∃ v, v = w.alloc (.cells #[.string op, .string nm, .string fo, .slice A ps.length c] 34) := ⟨_, rfl⟩
  obtain ⟨b0, hb0e⟩ : ∃ v, v = w.heap.size := ⟨_, rfl⟩
  have hb0 : Below w.heap.size w w0 := by rw [hw0]; exact al _ _
  have a0 : w0.heap[b0]? = some (.cells #[.string op, .string nm, .string fo, .slice A ps.length c] 34 (0, 0)) := by rw [hw0, hb0e]; exact heap_alloc_new w _
  have s0 : w0.heap.size = b0 + 1 := by rw [hw0, hb0e]; simp
  obtain ⟨w1, hw1⟩ : ∃ v, v = w0.alloc (.cells #[.string op', .string nm', .string fo', .slice A' ps'.length c'] 34) := ⟨_, rfl⟩
  have hb01 : Below w0.heap.size w0 w1 := by rw [hw1]; exact al _ _
  have hb1 : Below w.heap.size w w1 := Below.step hb0 hb01
  have a1 : w1.heap[b0 + 1]? = some (.cells #[.string op', .string nm', .string fo', .slice A' ps'.length c'] 34 (0, 0)) := by rw [hw1, ← s0]; exact heap_alloc_new w0 _
  have a0' : w1.heap[b0]? = some (.cells #[.string op, .string nm, .string fo, .slice A ps.length c] 34 (0, 0)) := (hb01.block b0 (by omega)).trans a0
  have hl1 : b0 + 1 < w1.heap.size := by rw [hw1]; simp [s0]
  have HC := Lib.hid (fun (w' : World) (hw' : Below w1.heap.size w1 w') => four_at ((hw'.block b0 (by omega)).trans a0'))
  have HC' := Lib.hid (fun (w' : World) (hw' : Below w1.heap.size w1 w') => four_at ((hw'.block (b0 + 1) hl1).trans a1))
  have HP := Lib.hid (fun (w' : World) (hw' : Below w1.heap.size w1 w') => (hs.imp (see_later (Below.step hb1 hw')) fun _ _ _ h => h.later (Below.step hb1 hw')))
  have HP' := Lib.hid (fun (w' : World) (hw' : Below w1.heap.size w1 w') => (hs'.imp (see_later (Below.step hb1 hw')) fun _ _ _ h => h.later (Below.step hb1 hw')))
  have HB1 := Lib.hid hb1
  have HW0 := Lib.hid hw0
  have HW := Lib.hid hw1
  have HBE := Lib.hid hb0e
  have HS0 := Lib.hid s0
  clear hw0 hw1 hb0e hb0 a0 s0 hb01 hb1 a1 a0' hl1 hs hs' hL hL' hN
  have HV := Lib.hid (Ex.beq_iff (Ex.mk op nm fo ps) (Ex.mk op' nm' fo' ps'))
  go_enter Tryd.func38, Tryd.ntmps38
  go_upto_region 1 with fail
  try rw [← HW0.out]
  try rw [← HW.out]
  try rw [← HBE.out]
  try rw [HS0.out]
  clear HW HW0
  obtain ⟨d0, d1, d2, d3⟩ := HC.out w1 (Below.refl _ _)
  obtain ⟨k0, k1, k2, k3⟩ := HC'.out w1 (Below.refl _ _)
  by_cases h_o : op = op'
  · have q_o : (op.toList == op'.toList) = true := by rw [Str.ba_beq, decide_eq_true h_o]
    by_cases h_a : nm = nm'
    · have q_a : (nm.toList == nm'.toList) = true := by rw [Str.ba_beq, decide_eq_true h_a]
      by_cases h_f : fo = fo'
      · have q_f : (fo.toList == fo'.toList) = true := by rw [Str.ba_beq, decide_eq_true h_f]
        by_cases h_n : ps.length = ps'.length
        · have q_n : ((ps.length : Int) != (ps'.length : Int)) = false := by rw [bne_eq_false_iff_eq]; omega
          have HE0 := Lib.hid (show ps = ps' → Ex.beq (Ex.mk op nm fo ps) (Ex.mk op' nm' fo' ps') = true from fun h => HV.out.2 (by rw [h_o, h_a, h_f, h]))
          have HLN := Lib.hid h_n
          clear h_o h_a h_f h_n
          go_wp2_with fail
          clear d0 d1 d2 d3 k0 k1 k2 k3
          go_loopw [5] (fun i wr => ∃ j : Nat, j ≤ ps.length ∧ i = .int .i64 j ∧ ps.take j = ps'.take j ∧ Below w1.heap.size w1 wr) (fun i _ => ps.length - (intOf i).toNat)
          case atStart => exact ⟨0, by omega, rfl, rfl, Below.refl _ _⟩
          case round =>
            obtain ⟨j, hk, rfl, hpre, hB⟩ := hrel
            have HBW := Lib.hid hB
            obtain ⟨d0, d1, d2, d3⟩ := HC.out wr hB
            obtain ⟨k0, k1, k2, k3⟩ := HC'.out wr hB
            by_cases hlt : j < ps.length
            · have hlt' : j < ps'.length := by have := HLN.out; omega
              obtain ⟨ad, x0, x1, x2, x3, rfl, hbk, y0, y1, y2, y3, hy⟩ := (HP.out wr hB).part j hlt
              obtain ⟨ad', x0', x1', x2', x3', rfl, hbk', y0', y1', y2', y3', hy'⟩ := (HP'.out wr hB).part j hlt'
              have hms := size_mem (List.getElem_mem hlt)
              have HI9 := Lib.hid (fun (w' : World) (hw' : Below wr.heap.size wr w') => HI.out ps[j] _ ps'[j] _ w' (Nat.le_trans hms HZ.out) (hy.later hw') (hy'.later hw'))
              have hbi := Ex.beq_iff ps[j] ps'[j]
              have HNX := Lib.hid (show Ex.beq ps[j] ps'[j] = true → ps.take (j + 1) = ps'.take (j + 1) from fun h => by rw [List.take_succ_eq_append_getElem hlt, List.take_succ_eq_append_getElem hlt', hpre, hbi.1 h])
              have HNO := Lib.hid (show Ex.beq ps[j] ps'[j] = false → Ex.beq (Ex.mk op nm fo ps) (Ex.mk op' nm' fo' ps') = false from fun h => Bool.eq_false_iff.2 fun g => by have e := HV.out.1 g; injection e with _ _ _ e; subst e; rw [(Ex.beq_iff _ _).2 rfl] at h; cases h)
              have HSV := Lib.hid (fun (w' : World) (hw' : Below wr.heap.size wr w') => And.intro (HC.out _ (Below.step hB hw')) (And.intro (HC'.out _ (Below.step hB hw')) (And.intro (cells4_later hbk y0 y1 y2 y3 hw') (cells4_later hbk' y0' y1' y2' y3' hw'))))
              have ltI : (j : Int) < (ps'.length : Int) := by omega
              have HLT := Lib.hid (Nat.not_le_of_lt hlt)
              clear hy hy' hms hB hbk hbk' hbi hpre
              generalize Ex.beq ps[j] ps'[j] = m2 at *
              clear hlt'
              go_upto_region 6 with fail
              clear d0 d1 d2 d3 k0 k1 k2 k3 y0 y1 y2 y3 y0' y1' y2' y3'
              refine wp_region_any (by kernel_rfl) ?_
              change wpAny _ _ _ _ _ _ _ (World.drew _)
              refine Held.any_of_G (S := (fun w' : World => (w'.cell? ⟨b0, 0, none⟩ = some (.string op) ∧ w'.cell? ⟨b0, 1, none⟩ = some (.string nm) ∧ w'.cell? ⟨b0, 2, none⟩ = some (.string fo) ∧ w'.cell? ⟨b0, 3, none⟩ = some (.slice (some ad) ps.length c)) ∧ (w'.cell? ⟨b0 + 1, 0, none⟩ = some (.string op') ∧ w'.cell? ⟨b0 + 1, 1, none⟩ = some (.string nm') ∧ w'.cell? ⟨b0 + 1, 2, none⟩ = some (.string fo') ∧ w'.cell? ⟨b0 + 1, 3, none⟩ = some (.slice (some ad') ps'.length c')) ∧ (w'.cell? (ad.add (j * 4)) = some x0 ∧ w'.cell? ⟨(ad.add (j * 4)).block, (ad.add (j * 4)).off + 1, none⟩ = some x1 ∧ w'.cell? ⟨(ad.add (j * 4)).block, (ad.add (j * 4)).off + 2, none⟩ = some x2 ∧ w'.cell? ⟨(ad.add (j * 4)).block, (ad.add (j * 4)).off + 3, none⟩ = some x3) ∧ (w'.cell? (ad'.add (j * 4)) = some x0' ∧ w'.cell? ⟨(ad'.add (j * 4)).block, (ad'.add (j * 4)).off + 1, none⟩ = some x1' ∧ w'.cell? ⟨(ad'.add (j * 4)).block, (ad'.add (j * 4)).off + 2, none⟩ = some x2' ∧ w'.cell? ⟨(ad'.add (j * 4)).block, (ad'.add (j * 4)).off + 3, none⟩ = some x3'))) (z := 11) _ _ _ _ ?_
              refine Held.G_take (i := 0) (d := 41) (v := ?_) [0, 1, 3, 4, 10, 11] rfl rfl (by kernel_rfl) (by kernel_rfl) (by kernel_rfl) (by kernel_rfl) (fun _ _ _ h => h) (Or.inl ⟨by rfl, ?_⟩) (HSV.out _ (show Below wr.heap.size wr (World.drew wr) from (Below.refl _ _).drew)) ?_
              rotate_left 1
              · intro w hSw; clear hSw; go_simp <;> with_reducible rfl
              simp only [Act.put, List.setIfInBounds_toArray, List.set_cons_zero, List.set_cons_succ]
              refine Held.G_take (i := 1) (d := 42) (v := ?_) [1, 3, 4, 10, 11] rfl rfl (by kernel_rfl) (by kernel_rfl) (by kernel_rfl) (by kernel_rfl) (fun _ _ _ h => h) (Or.inl ⟨by rfl, ?_⟩) (HSV.out _ (show Below wr.heap.size wr (World.drew wr) from (Below.refl _ _).drew)) ?_
              rotate_left 1
              · intro w hSw; obtain ⟨⟨d0, d1, d2, d3⟩, ⟨k0, k1, k2, k3⟩, ⟨y0, y1, y2, y3⟩, y0', y1', y2', y3'⟩ := hSw; go_simp <;> with_reducible rfl
              simp only [Act.put, List.setIfInBounds_toArray, List.set_cons_zero, List.set_cons_succ]
              refine Held.G_take (i := 2) (d := 43) (v := ?_) [2, 3, 4, 10, 11] rfl rfl (by kernel_rfl) (by kernel_rfl) (by kernel_rfl) (by kernel_rfl) (fun _ _ _ h => h) (Or.inl ⟨by rfl, ?_⟩) (HSV.out _ (show Below wr.heap.size wr (World.drew wr) from (Below.refl _ _).drew)) ?_
              rotate_left 1
              · intro w hSw; clear hSw; go_simp <;> with_reducible rfl
              simp only [Act.put, List.setIfInBounds_toArray, List.set_cons_zero, List.set_cons_succ]
              refine Held.G_take (i := 3) (d := 44) (v := ?_) [3, 4, 10, 11] rfl rfl (by kernel_rfl) (by kernel_rfl) (by kernel_rfl) (by kernel_rfl) (fun _ _ _ h => h) (Or.inl ⟨by rfl, ?_⟩) (HSV.out _ (show Below wr.heap.size wr (World.drew wr) from (Below.refl _ _).drew)) ?_
              rotate_left 1
              · intro w hSw; clear hSw; go_simp <;> with_reducible rfl
              simp only [Act.put, List.setIfInBounds_toArray, List.set_cons_zero, List.set_cons_succ]
              refine Held.G_take (i := 4) (d := 45) (v := ?_) [4, 10, 11] rfl rfl (by kernel_rfl) (by kernel_rfl) (by kernel_rfl) (by kernel_rfl) (fun _ _ _ h => h) (Or.inl ⟨by rfl, ?_⟩) (HSV.out _ (show Below wr.heap.size wr (World.drew wr) from (Below.refl _ _).drew)) ?_
              rotate_left 1
              · intro w hSw; obtain ⟨⟨d0, d1, d2, d3⟩, ⟨k0, k1, k2, k3⟩, ⟨y0, y1, y2, y3⟩, y0', y1', y2', y3'⟩ := hSw; go_simp <;> with_reducible rfl
              simp only [Act.put, List.setIfInBounds_toArray, List.set_cons_zero, List.set_cons_succ]
              refine Held.G_take (i := 5) (d := 46) (v := ?_) [5, 6, 8, 9, 10, 11] rfl rfl (by kernel_rfl) (by kernel_rfl) (by kernel_rfl) (by kernel_rfl) (fun _ _ _ h => h) (Or.inl ⟨by rfl, ?_⟩) (HSV.out _ (show Below wr.heap.size wr (World.drew wr) from (Below.refl _ _).drew)) ?_
              rotate_left 1
              · intro w hSw; clear hSw; go_simp <;> with_reducible rfl
              simp only [Act.put, List.setIfInBounds_toArray, List.set_cons_zero, List.set_cons_succ]
              refine Held.G_take (i := 6) (d := 47) (v := ?_) [6, 8, 9, 10, 11] rfl rfl (by kernel_rfl) (by kernel_rfl) (by kernel_rfl) (by kernel_rfl) (fun _ _ _ h => h) (Or.inl ⟨by rfl, ?_⟩) (HSV.out _ (show Below wr.heap.size wr (World.drew wr) from (Below.refl _ _).drew)) ?_
              rotate_left 1
              · intro w hSw; obtain ⟨⟨d0, d1, d2, d3⟩, ⟨k0, k1, k2, k3⟩, ⟨y0, y1, y2, y3⟩, y0', y1', y2', y3'⟩ := hSw; go_simp <;> with_reducible rfl
              simp only [Act.put, List.setIfInBounds_toArray, List.set_cons_zero, List.set_cons_succ]
              refine Held.G_take (i := 7) (d := 48) (v := ?_) [7, 8, 9, 10, 11] rfl rfl (by kernel_rfl) (by kernel_rfl) (by kernel_rfl) (by kernel_rfl) (fun _ _ _ h => h) (Or.inl ⟨by rfl, ?_⟩) (HSV.out _ (show Below wr.heap.size wr (World.drew wr) from (Below.refl _ _).drew)) ?_
              rotate_left 1
              · intro w hSw; clear hSw; go_simp <;> with_reducible rfl
              simp only [Act.put, List.setIfInBounds_toArray, List.set_cons_zero, List.set_cons_succ]
              refine Held.G_take (i := 8) (d := 49) (v := ?_) [8, 9, 10, 11] rfl rfl (by kernel_rfl) (by kernel_rfl) (by kernel_rfl) (by kernel_rfl) (fun _ _ _ h => h) (Or.inl ⟨by rfl, ?_⟩) (HSV.out _ (show Below wr.heap.size wr (World.drew wr) from (Below.refl _ _).drew)) ?_
              rotate_left 1
              · intro w hSw; clear hSw; go_simp <;> with_reducible rfl
              simp only [Act.put, List.setIfInBounds_toArray, List.set_cons_zero, List.set_cons_succ]
              refine Held.G_take (i := 9) (d := 50) (v := ?_) [9, 10, 11] rfl rfl (by kernel_rfl) (by kernel_rfl) (by kernel_rfl) (by kernel_rfl) (fun _ _ _ h => h) (Or.inl ⟨by rfl, ?_⟩) (HSV.out _ (show Below wr.heap.size wr (World.drew wr) from (Below.refl _ _).drew)) ?_
              rotate_left 1
              · intro w hSw; obtain ⟨⟨d0, d1, d2, d3⟩, ⟨k0, k1, k2, k3⟩, ⟨y0, y1, y2, y3⟩, y0', y1', y2', y3'⟩ := hSw; go_simp <;> with_reducible rfl
              simp only [Act.put, List.setIfInBounds_toArray, List.set_cons_zero, List.set_cons_succ]
              refine Held.G_ready (rs := [10]) (by decide +kernel) (by simp) ?_
              refine Held.G_cons rfl (fun KK hK => ?_) Held.G_nil
              go_simp
              have hcall := HI9.out _ (show Below wr.heap.size wr (World.drew wr) from (Below.refl _ _).drew)
              (with_reducible refine hcall.mono ?_)
              clear hcall
              rintro e w9 ⟨rfl, hb⟩
              have hq : Below wr.heap.size wr w9 := Below.step (show Below wr.heap.size wr (World.drew wr) from (Below.refl _ _).drew) hb
              clear hb
              go_simp
              refine hK _ _ ?_
              clear hK KK
              refine ⟨(HSV.out _ hq), ?_⟩
              refine Held.G_ready (rs := [11]) (by decide +kernel) (by simp) ?_
              refine Held.G_last rfl (fun KK hK => ?_) Held.G_nil
              go_simp
              refine hK _ _ ?_
              clear hK KK
              refine Held.G_done (by kernel_rfl) ?_ _
              have HB2 := Lib.hid (Below.step HBW.out hq)
              clear hq
              cases m2 with
              | true =>
                have HM := Lib.hid (HNX.out rfl)
                go_wp2_with fail
                go_roundw
                case rel => exact ⟨j + 1, by have := HLT.out; omega, by go_num, HM.out, HB2.out⟩
                case measure => have := HLT.out; simp [intOf]; omega
              | false =>
                have HM := Lib.hid (HNO.out rfl)
                go_wp2_with fail
                go_ret
                exact ⟨ret_bool HM.out.symm, HB1.out.trans (HB2.out.mono HB1.out.size)⟩
            · have HE := Lib.hid (HE0.out (by have hln := HLN.out; rw [List.take_of_length_le (by omega), List.take_of_length_le (by omega)] at hpre; exact hpre))
              clear hpre
              have hn : ¬ (j : Int) < (ps.length : Int) := by omega
              go_wp2_with fail
              go_ret
              exact ⟨ret_bool HE.out.symm, HB1.out.trans (HBW.out.mono HB1.out.size)⟩
        · have q_n : ((ps.length : Int) != (ps'.length : Int)) = true := by rw [bne_iff_ne]; omega
          have HF := Lib.hid (show Ex.beq (Ex.mk op nm fo ps) (Ex.mk op' nm' fo' ps') = false from Bool.eq_false_iff.2 fun h => by have := HV.out.1 h; simp_all)
          clear h_o h_a h_f h_n
          go_wp2_with fail
          go_ret
          exact ⟨ret_bool HF.out.symm, HB1.out⟩
      · have q_f : (fo.toList == fo'.toList) = false := by rw [Str.ba_beq, decide_eq_false h_f]
        have HF := Lib.hid (show Ex.beq (Ex.mk op nm fo ps) (Ex.mk op' nm' fo' ps') = false from Bool.eq_false_iff.2 fun h => by have := HV.out.1 h; simp_all)
        clear h_o h_a h_f
        go_wp2_with fail
        go_ret
        exact ⟨ret_bool HF.out.symm, HB1.out⟩
    · have q_a : (nm.toList == nm'.toList) = false := by rw [Str.ba_beq, decide_eq_false h_a]
      have HF := Lib.hid (show Ex.beq (Ex.mk op nm fo ps) (Ex.mk op' nm' fo' ps') = false from Bool.eq_false_iff.2 fun h => by have := HV.out.1 h; simp_all)
      clear h_o h_a
      go_wp2_with fail
      go_ret
      exact ⟨ret_bool HF.out.symm, HB1.out⟩
  · have q_o : (op.toList == op'.toList) = false := by rw [Str.ba_beq, decide_eq_false h_o]
    have HF := Lib.hid (show Ex.beq (Ex.mk op nm fo ps) (Ex.mk op' nm' fo' ps') = false from Bool.eq_false_iff.2 fun h => by have := HV.out.1 h; simp_all)
    clear h_o
    go_wp2_with fail
    go_ret
    exact ⟨ret_bool HF.out.symm, HB1.out⟩
theorem refSame_any : ∀ (N : Nat), ∀ (e : Ex) (q : List Value) (e' : Ex) (q' : List Value) (w : World), e.size ≤ N → Lay w w.heap.size e q → Lay w w.heap.size e' q' → Calls Tryd.prog 38 #[.agg q.toArray, .agg q'.toArray] w fun r w' => r = .returned (.bool (Ex.beq e e')) ∧ Below w.heap.size w w' := by
  intro N
  induction N with
  | zero => intro e; obtain ⟨op, nm, fo, ps⟩ := e; intro q e' q' w hN; simp only [Ex.size] at hN; omega
  | succ N ih => intro e; obtain ⟨op, nm, fo, ps⟩ := e; exact refSame_step N ih op nm fo ps
end Go.Proofs.YtkmnbdomikpakaaDoor.RuleRec
