/- The document's rows compared. -/
import Derived.Test.YtilcnhdfdgmekaaGreatKFactsFind
import Derived.Test.YtilcnhdfdgmekaaGreatKFactsNames
import Derived.Test.YtilcnhdfdgmekaaGreatKFactsSame
namespace Go.Proofs.YtilcnhdfdgmekaaGreat.FactsRefS
open Go.RowKit Base KeyPlain TuplePlain TupleRef TupleSpec FMap FactsPlain FactsMem FactsNew FactsObj FactsUsersOf TurnB

theorem tp_ne (t v : Tp) (w : World) : (binOp .neq 32 (.agg (tc t)) (.agg (tc v))).run Tryz.prog w = .ok (.bool (!decide (t = v))) w := by
  rw [run_neq_struct, TupleEq.tp_in]; rfl
theorem URow.below {w w' : World} {A : Option Addr} {l : List Us} (h : URow w A l) (hb : Below w.heap.size w w') : URow w' A l := fun i hi => by
  obtain ⟨g, o, hA, hg, hc⟩ := h i hi
  exact ⟨g, o, hA, Nat.lt_of_lt_of_le hg hb.size, fun j v hv => (World.cell?_of_block (w := w) (hb.block g hg)).trans (hc j v hv)⟩
/-- rows of cells one by one, for the walks: what stands at place k -/
def RowT (w : World) (A : Option Addr) (l : List Tp) : Prop := ∀ i (hi : i < l.length), ∃ g o, A = some ⟨g, o, none⟩ ∧ g < w.heap.size ∧ w.cell? ⟨g, o + i * 6, none⟩ = some (.string l[i].k) ∧ w.cell? ⟨g, o + i * 6 + 1, none⟩ = some (.string l[i].i) ∧ w.cell? ⟨g, o + i * 6 + 2, none⟩ = some (.string l[i].r) ∧ w.cell? ⟨g, o + i * 6 + 3, none⟩ = some (.string l[i].u.k) ∧ w.cell? ⟨g, o + i * 6 + 4, none⟩ = some (.string l[i].u.i) ∧ w.cell? ⟨g, o + i * 6 + 5, none⟩ = some (.string l[i].u.r)
def RowU (w : World) (A : Option Addr) (l : List Us) : Prop := ∀ i (hi : i < l.length), ∃ g o, A = some ⟨g, o, none⟩ ∧ g < w.heap.size ∧ w.cell? ⟨g, o + i * 3, none⟩ = some (.string l[i].k) ∧ w.cell? ⟨g, o + i * 3 + 1, none⟩ = some (.string l[i].i) ∧ w.cell? ⟨g, o + i * 3 + 2, none⟩ = some (.string l[i].r)
theorem rowT {w : World} {A : Option Addr} {l : List Tp} (h : TRow w A l) : RowT w A l := fun i hi => by
  obtain ⟨g, o, hA, hg, hc⟩ := h i hi
  exact ⟨g, o, hA, hg, six_of hc⟩
theorem rowU {w : World} {A : Option Addr} {l : List Us} (h : URow w A l) : RowU w A l := fun i hi => by
  obtain ⟨g, o, hA, hg, hc⟩ := h i hi
  exact ⟨g, o, hA, hg, hc 0 _ rfl, hc 1 _ rfl, hc 2 _ rfl⟩
theorem RowT.below {w w' : World} {A : Option Addr} {l : List Tp} (h : RowT w A l) (hb : Below w.heap.size w w') : RowT w' A l := fun i hi => by
  obtain ⟨g, o, hA, hg, c0, c1, c2, c3, c4, c5⟩ := h i hi
  have e : ∀ x, w'.cell? ⟨g, x, none⟩ = w.cell? ⟨g, x, none⟩ := fun x => World.cell?_of_block (w := w) (hb.block g hg)
  exact ⟨g, o, hA, Nat.lt_of_lt_of_le hg hb.size, (e _).trans c0, (e _).trans c1, (e _).trans c2, (e _).trans c3, (e _).trans c4, (e _).trans c5⟩
theorem RowU.below {w w' : World} {A : Option Addr} {l : List Us} (h : RowU w A l) (hb : Below w.heap.size w w') : RowU w' A l := fun i hi => by
  obtain ⟨g, o, hA, hg, c0, c1, c2⟩ := h i hi
  have e : ∀ x, w'.cell? ⟨g, x, none⟩ = w.cell? ⟨g, x, none⟩ := fun x => World.cell?_of_block (w := w) (hb.block g hg)
  exact ⟨g, o, hA, Nat.lt_of_lt_of_le hg hb.size, (e _).trans c0, (e _).trans c1, (e _).trans c2⟩
/-- texts in a row -/
def RowS (w : World) (A : Option Addr) (l : List ByteArray) : Prop := ∀ i (hi : i < l.length), ∃ g o, A = some ⟨g, o, none⟩ ∧ g < w.heap.size ∧ w.cell? ⟨g, o + i, none⟩ = some (.string l[i])
theorem RowS.below {w w' : World} {A : Option Addr} {l : List ByteArray} (h : RowS w A l) (hb : Below w.heap.size w w') : RowS w' A l := fun i hi => by
  obtain ⟨g, o, hA, hg, c0⟩ := h i hi
  exact ⟨g, o, hA, Nat.lt_of_lt_of_le hg hb.size, (World.cell?_of_block (w := w) (hb.block g hg)).trans c0⟩
theorem idx_s {A : Option Addr} {g o n c i : Nat} (hA : A = some ⟨g, o, none⟩) (hi : i < n) (w : World) : (Instr.indexAt 51 (.slice A n c) (.int .i64 (i : Int))).run Tryz.prog w = .ok (.pointer (some ⟨g, o + i, none⟩)) w := by
  subst hA
  have h2 : (i : Int) < n := by omega
  go_simp
set_option maxRecDepth 100000 in
set_option maxHeartbeats 12800000 in
theorem rsame_t (W : World) (A B : Option Addr) (n c m d : Nat) (l q : List Tp) (b : Bool) (hn : n = l.length) (hm : m = q.length) (hr : RowT W A l) (hq : RowT W B q) (hl : l.length ≤ 1000000000) (hb : b = true ↔ l = q) :
    Calls Tryz.prog 19 #[.slice A n c, .slice B m d] W fun e w' => e = .returned (.bool b) ∧ Below W.heap.size W w' := by
  have HR := Lib.hid hr
  have HQ := Lib.hid hq
  have HB := Lib.hid hb
  have HL := Lib.hid hl
  have HNL := Lib.hid hn
  have HML := Lib.hid hm
  have hnb : n ≤ 1000000000 := by omega
  clear hr hq hb hl
  by_cases hlen : n = m
  · have HLN := Lib.hid hlen
    subst hlen
    have e1 : ((n : Int) != (n : Int)) = false := by simp
    clear hn hm
    go_enter Tryz.func19, Tryz.ntmps19
    go_wp2_with fail
    clear e1
    go_loopw [5] (fun i wr => ∃ k : Nat, k ≤ n ∧ i = .int .i64 k ∧ l.take k = q.take k ∧ Below W.heap.size W wr) (fun i _ => n - (intOf i).toNat)
    case atStart => exact ⟨0, by omega, rfl, rfl, Below.refl _ _⟩
    case round =>
      obtain ⟨k, hk, rfl, hpre, hbw⟩ := hrel
      have HP := Lib.hid hpre
      have HBW := Lib.hid hbw
      clear hpre
      by_cases hlt : k < n
      · have h1 : k < l.length := by rw [← HNL.out]; exact hlt
        have h2 : k < q.length := by rw [← HML.out]; exact hlt
        obtain ⟨g1, o1, hA, hg1, hc1⟩ := (HR.out.below hbw) k h1
        obtain ⟨g2, o2, hB, hg2, hc2⟩ := (HQ.out.below hbw) k h2
        have hx1 := idx_tp (n := n) (c := c) hA hlt
        have hx2 := idx_tp (n := n) (c := d) hB hlt
        have HT := Lib.hid (show l.take (k + 1) = q.take (k + 1) ↔ l[k] = q[k] by
          rw [List.take_succ_eq_append_getElem h1, List.take_succ_eq_append_getElem h2, HP.out, List.append_cancel_left_eq]
          simp only [List.cons.injEq, and_true])
        have HE := Lib.hid (show l[k] ≠ q[k] → b = false from fun he => Bool.eq_false_iff.2 fun h => he (by have := HB.out.1 h; subst this; rfl))
        obtain ⟨d0, d1, d2, d3, d4, d5⟩ := hc1
        obtain ⟨e0, e1, e2, e3, e4, e5⟩ := hc2
        clear hA hB hg1 hg2 hbw
        generalize l[k] = t1 at *
        generalize q[k] = t2 at *
        clear h1 h2
        have HLT := Lib.hid hlt
        by_cases he : t1 = t2
        · have hne : ∀ w, (binOp .neq 32 (.agg (tc t1)) (.agg (tc t2))).run Tryz.prog w = .ok (.bool false) w := fun w => by rw [tp_ne t1 t2 w]; simp [he]
          unfold tc at hne
          have HF := Lib.hid (HT.out.2 he)
          clear HT HE he
          go_wp2_with fail
          go_quiet (fail)
          go_wp2_with fail
          go_roundw
          case rel => exact ⟨k + 1, by have := HLT.out; omega, by go_num, HF.out, HBW.out.trans (Base.below_drewN _ _ _)⟩
          case measure => have := HLT.out; simp [intOf]; omega
        · have hne : ∀ w, (binOp .neq 32 (.agg (tc t1)) (.agg (tc t2))).run Tryz.prog w = .ok (.bool true) w := fun w => by rw [tp_ne t1 t2 w]; simp [he]
          unfold tc at hne
          have HF := Lib.hid (HE.out he)
          clear HT HE he
          go_wp2_with fail
          go_quiet (fail)
          go_wp2_with fail
          go_ret
          exact ⟨ret_bool HF.out.symm, HBW.out.trans (Base.below_drewN _ _ _)⟩
      · go_wp2_with fail
        go_ret
        refine ⟨ret_bool ?_, HBW.out⟩
        have hk' : k = n := by omega
        have h1 := HP.out
        rw [hk'] at h1
        rw [List.take_of_length_le (by rw [HNL.out]; exact Nat.le_refl _), List.take_of_length_le (by rw [HML.out]; exact Nat.le_refl _)] at h1
        exact (HB.out.2 h1).symm
  · have e1 : ((n : Int) != (m : Int)) = true := by
      rw [bne_iff_ne]
      omega
    have HF := Lib.hid (show b = false from Bool.eq_false_iff.2 fun h => hlen (by rw [hn, hm, HB.out.1 h]))
    clear hlen hn hm
    go_enter Tryz.func19, Tryz.ntmps19
    go_wp2_with fail
    go_ret
    exact ⟨ret_bool HF.out.symm, Below.refl _ _⟩
set_option maxRecDepth 100000 in
set_option maxHeartbeats 12800000 in
theorem rsame_u (W : World) (A B : Option Addr) (n c m d : Nat) (l q : List Us) (b : Bool) (hn : n = l.length) (hm : m = q.length) (hr : RowU W A l) (hq : RowU W B q) (hl : l.length ≤ 1000000000) (hb : b = true ↔ l = q) :
    Calls Tryz.prog 23 #[.slice A n c, .slice B m d] W fun e w' => e = .returned (.bool b) ∧ Below W.heap.size W w' := by
  have HR := Lib.hid hr
  have HQ := Lib.hid hq
  have HB := Lib.hid hb
  have HL := Lib.hid hl
  have HNL := Lib.hid hn
  have HML := Lib.hid hm
  have hnb : n ≤ 1000000000 := by omega
  clear hr hq hb hl
  by_cases hlen : n = m
  · have HLN := Lib.hid hlen
    subst hlen
    have e1 : ((n : Int) != (n : Int)) = false := by simp
    clear hn hm
    go_enter Tryz.func23, Tryz.ntmps23
    go_wp2_with fail
    clear e1
    go_loopw [5] (fun i wr => ∃ k : Nat, k ≤ n ∧ i = .int .i64 k ∧ l.take k = q.take k ∧ Below W.heap.size W wr) (fun i _ => n - (intOf i).toNat)
    case atStart => exact ⟨0, by omega, rfl, rfl, Below.refl _ _⟩
    case round =>
      obtain ⟨k, hk, rfl, hpre, hbw⟩ := hrel
      have HP := Lib.hid hpre
      have HBW := Lib.hid hbw
      clear hpre
      by_cases hlt : k < n
      · have h1 : k < l.length := by rw [← HNL.out]; exact hlt
        have h2 : k < q.length := by rw [← HML.out]; exact hlt
        obtain ⟨g1, o1, hA, hg1, hc1⟩ := (HR.out.below hbw) k h1
        obtain ⟨g2, o2, hB, hg2, hc2⟩ := (HQ.out.below hbw) k h2
        have hx1 := idx_us (n := n) (c := c) hA hlt
        have hx2 := idx_us (n := n) (c := d) hB hlt
        have HT := Lib.hid (show l.take (k + 1) = q.take (k + 1) ↔ l[k] = q[k] by
          rw [List.take_succ_eq_append_getElem h1, List.take_succ_eq_append_getElem h2, HP.out, List.append_cancel_left_eq]
          simp only [List.cons.injEq, and_true])
        have HE := Lib.hid (show l[k] ≠ q[k] → b = false from fun he => Bool.eq_false_iff.2 fun h => he (by have := HB.out.1 h; subst this; rfl))
        obtain ⟨d0, d1, d2⟩ := hc1
        obtain ⟨e0, e1, e2⟩ := hc2
        clear hA hB hg1 hg2 hbw
        generalize l[k] = t1 at *
        generalize q[k] = t2 at *
        clear h1 h2
        have HLT := Lib.hid hlt
        by_cases he : t1 = t2
        · have hne : ∀ w, (binOp .neq 30 (.agg (uc t1)) (.agg (uc t2))).run Tryz.prog w = .ok (.bool false) w := fun w => by rw [TupleEq.us_ne t1 t2 w]; simp [he]
          unfold uc at hne
          have HF := Lib.hid (HT.out.2 he)
          clear HT HE he
          go_wp2_with fail
          go_quiet (fail)
          go_wp2_with fail
          go_roundw
          case rel => exact ⟨k + 1, by have := HLT.out; omega, by go_num, HF.out, HBW.out.trans (Base.below_drewN _ _ _)⟩
          case measure => have := HLT.out; simp [intOf]; omega
        · have hne : ∀ w, (binOp .neq 30 (.agg (uc t1)) (.agg (uc t2))).run Tryz.prog w = .ok (.bool true) w := fun w => by rw [TupleEq.us_ne t1 t2 w]; simp [he]
          unfold uc at hne
          have HF := Lib.hid (HE.out he)
          clear HT HE he
          go_wp2_with fail
          go_quiet (fail)
          go_wp2_with fail
          go_ret
          exact ⟨ret_bool HF.out.symm, HBW.out.trans (Base.below_drewN _ _ _)⟩
      · go_wp2_with fail
        go_ret
        refine ⟨ret_bool ?_, HBW.out⟩
        have hk' : k = n := by omega
        have h1 := HP.out
        rw [hk'] at h1
        rw [List.take_of_length_le (by rw [HNL.out]; exact Nat.le_refl _), List.take_of_length_le (by rw [HML.out]; exact Nat.le_refl _)] at h1
        exact (HB.out.2 h1).symm
  · have e1 : ((n : Int) != (m : Int)) = true := by
      rw [bne_iff_ne]
      omega
    have HF := Lib.hid (show b = false from Bool.eq_false_iff.2 fun h => hlen (by rw [hn, hm, HB.out.1 h]))
    clear hlen hn hm
    go_enter Tryz.func23, Tryz.ntmps23
    go_wp2_with fail
    go_ret
    exact ⟨ret_bool HF.out.symm, Below.refl _ _⟩
set_option maxRecDepth 100000 in
set_option maxHeartbeats 12800000 in
theorem rsame_s (W : World) (A B : Option Addr) (n c m d : Nat) (l q : List ByteArray) (b : Bool) (hn : n = l.length) (hm : m = q.length) (hr : RowS W A l) (hq : RowS W B q) (hl : l.length ≤ 1000000000) (hb : b = true ↔ l = q) :
    Calls Tryz.prog 26 #[.slice A n c, .slice B m d] W fun e w' => e = .returned (.bool b) ∧ Below W.heap.size W w' := by
  have HR := Lib.hid hr
  have HQ := Lib.hid hq
  have HB := Lib.hid hb
  have HL := Lib.hid hl
  have HNL := Lib.hid hn
  have HML := Lib.hid hm
  have hnb : n ≤ 1000000000 := by omega
  clear hr hq hb hl
  by_cases hlen : n = m
  · have HLN := Lib.hid hlen
    subst hlen
    have e1 : ((n : Int) != (n : Int)) = false := by simp
    clear hn hm
    go_enter Tryz.func26, Tryz.ntmps26
    go_wp2_with fail
    clear e1
    go_loopw [5] (fun i wr => ∃ k : Nat, k ≤ n ∧ i = .int .i64 k ∧ l.take k = q.take k ∧ Below W.heap.size W wr) (fun i _ => n - (intOf i).toNat)
    case atStart => exact ⟨0, by omega, rfl, rfl, Below.refl _ _⟩
    case round =>
      obtain ⟨k, hk, rfl, hpre, hbw⟩ := hrel
      have HP := Lib.hid hpre
      have HBW := Lib.hid hbw
      clear hpre
      by_cases hlt : k < n
      · have h1 : k < l.length := by rw [← HNL.out]; exact hlt
        have h2 : k < q.length := by rw [← HML.out]; exact hlt
        obtain ⟨g1, o1, hA, hg1, hc1⟩ := (HR.out.below hbw) k h1
        obtain ⟨g2, o2, hB, hg2, hc2⟩ := (HQ.out.below hbw) k h2
        have hx1 := idx_s (n := n) (c := c) hA hlt
        have hx2 := idx_s (n := n) (c := d) hB hlt
        have HT := Lib.hid (show l.take (k + 1) = q.take (k + 1) ↔ l[k] = q[k] by
          rw [List.take_succ_eq_append_getElem h1, List.take_succ_eq_append_getElem h2, HP.out, List.append_cancel_left_eq]
          simp only [List.cons.injEq, and_true])
        have HE := Lib.hid (show l[k] ≠ q[k] → b = false from fun he => Bool.eq_false_iff.2 fun h => he (by have := HB.out.1 h; subst this; rfl))
        obtain d0 := hc1
        obtain e0 := hc2
        clear hA hB hg1 hg2 hbw
        generalize l[k] = t1 at *
        generalize q[k] = t2 at *
        clear h1 h2
        have HLT := Lib.hid hlt
        by_cases he : t1 = t2
        · have hne : (t1.toList == t2.toList) = true := by rw [ba_beq]; simp [he]
          have HF := Lib.hid (HT.out.2 he)
          clear HT HE he
          go_wp2_with fail
          go_quiet (fail)
          go_wp2_with fail
          go_roundw
          case rel => exact ⟨k + 1, by have := HLT.out; omega, by go_num, HF.out, HBW.out.trans (Base.below_drewN _ _ _)⟩
          case measure => have := HLT.out; simp [intOf]; omega
        · have hne : (t1.toList == t2.toList) = false := by rw [ba_beq]; simp [he]
          have HF := Lib.hid (HE.out he)
          clear HT HE he
          go_wp2_with fail
          go_quiet (fail)
          go_wp2_with fail
          go_ret
          exact ⟨ret_bool HF.out.symm, HBW.out.trans (Base.below_drewN _ _ _)⟩
      · go_wp2_with fail
        go_ret
        refine ⟨ret_bool ?_, HBW.out⟩
        have hk' : k = n := by omega
        have h1 := HP.out
        rw [hk'] at h1
        rw [List.take_of_length_le (by rw [HNL.out]; exact Nat.le_refl _), List.take_of_length_le (by rw [HML.out]; exact Nat.le_refl _)] at h1
        exact (HB.out.2 h1).symm
  · have e1 : ((n : Int) != (m : Int)) = true := by
      rw [bne_iff_ne]
      omega
    have HF := Lib.hid (show b = false from Bool.eq_false_iff.2 fun h => hlen (by rw [hn, hm, HB.out.1 h]))
    clear hlen hn hm
    go_enter Tryz.func26, Tryz.ntmps26
    go_wp2_with fail
    go_ret
    exact ⟨ret_bool HF.out.symm, Below.refl _ _⟩
set_option maxRecDepth 100000 in
set_option maxHeartbeats 12800000 in
theorem rhas_any (W : World) (A : Option Addr) (n c : Nat) (l : List Tp) (t : Tp) (hn : n = l.length) (hr : RowT W A l) (hl : l.length ≤ 1000000000) :
    Calls Tryz.prog 13 #[.slice A n c, .agg (tc t)] W fun e w' => e = .returned (.bool (decide (t ∈ l))) ∧ Below W.heap.size W w' := by
  obtain ⟨w1, hw1⟩ : ∃ v, v = W.alloc (.cells (tc t) 32) := ⟨_, rfl⟩
  obtain ⟨b, hbe⟩ : ∃ v, v = W.heap.size := ⟨_, rfl⟩
  have b1 : Below W.heap.size W w1 := by rw [hw1]; exact al _ _
  have a1 : w1.heap[b]? = some (.cells (tc t) 32 (0, 0)) := by rw [hw1, hbe]; exact heap_alloc_new W _
  have hb1 : b < w1.heap.size := heap_lt a1
  have hr1 := hr.below b1
  have hnb : n ≤ 1000000000 := by omega
  have HR := Lib.hid hr1
  have HNL := Lib.hid hn
  have HC := Lib.hid (fun (w' : World) (hw' : Below w1.heap.size w1 w') => six_at ((hw'.block b hb1).trans a1))
  have HB1 := Lib.hid b1
  have HW1 := Lib.hid hw1
  have HBE := Lib.hid hbe
  obtain ⟨ans, hans⟩ : ∃ ans, ans = decide (t ∈ l) := ⟨_, rfl⟩
  rw [← hans]
  have HAN := Lib.hid hans
  have HTE := Lib.hid (fun x => TupleEq.tp_eq x t)
  unfold tc at HW1 ⊢
  clear hr hr1 hl hn b1 a1 hb1 hw1 hbe hans
  go_enter Tryz.func13, Tryz.ntmps13
  go_upto_region 1 with fail
  rw [← HW1.out, ← HBE.out]
  go_wp2_with fail
  go_loopw [5] (fun i wr => ∃ k : Nat, k ≤ n ∧ i = .int .i64 k ∧ t ∉ l.take k ∧ Below w1.heap.size w1 wr) (fun i _ => n - (intOf i).toNat)
  case atStart => exact ⟨0, by omega, rfl, by simp, Below.refl _ _⟩
  case round =>
    obtain ⟨k, hk, rfl, hpre, hbw⟩ := hrel
    have HP := Lib.hid hpre
    have HBW := Lib.hid hbw
    clear hpre
    by_cases hlt : k < n
    · have h1 : k < l.length := by rw [← HNL.out]; exact hlt
      obtain ⟨g1, o1, hA, hg1, d0, d1, d2, d3, d4, d5⟩ := (HR.out.below hbw) k h1
      obtain ⟨e0, e1, e2, e3, e4, e5⟩ := HC.out _ hbw
      have hx1 := idx_tp (n := n) (c := c) hA hlt
      have hte := HTE.out l[k]
      have HT := Lib.hid (show (l[k] = t → ans = true) ∧ (l[k] ≠ t → t ∉ l.take (k + 1)) from
        ⟨fun he => by rw [HAN.out, decide_eq_true_eq, ← he]; exact List.getElem_mem h1, fun he hm => by
          rw [List.take_succ_eq_append_getElem h1, List.mem_append, List.mem_singleton] at hm
          exact hm.elim HP.out fun e => he e.symm⟩)
      generalize l[k] = t1 at *
      clear h1 hA hg1 hbw
      have HLT := Lib.hid hlt
      unfold tc at hte
      by_cases he : t1 = t
      · have HF := Lib.hid (HT.out.1 he)
        simp only [he, decide_true] at hte
        have hte' : ∀ w, (binOp .eql 32 (.agg #[.string t1.k, .string t1.i, .string t1.r, .string t1.u.k, .string t1.u.i, .string t1.u.r]) (.agg #[.string t.k, .string t.i, .string t.r, .string t.u.k, .string t.u.i, .string t.u.r])).run Tryz.prog w = .ok (.bool true) w := by rw [he]; exact hte
        clear hte HT he
        go_wp2_with fail
        go_quiet (fail)
        go_wp2_with fail
        go_ret
        exact ⟨ret_bool HF.out.symm, HB1.out.trans ((HBW.out.trans (Base.below_drewN _ _ _)).mono HB1.out.size)⟩
      · have HF := Lib.hid (HT.out.2 he)
        simp only [he, decide_false] at hte
        clear HT he
        go_wp2_with fail
        go_quiet (fail)
        go_wp2_with fail
        go_roundw
        case rel => exact ⟨k + 1, by have := HLT.out; omega, by go_num, HF.out, HBW.out.trans (Base.below_drewN _ _ _)⟩
        case measure => have := HLT.out; simp [intOf]; omega
    · go_wp2_with fail
      go_ret
      refine ⟨ret_bool ?_, HB1.out.trans (HBW.out.mono HB1.out.size)⟩
      have hk' : k = n := by omega
      have h1 := HP.out
      rw [hk', List.take_of_length_le (by rw [HNL.out]; exact Nat.le_refl _)] at h1
      rw [HAN.out]
      exact (decide_eq_false h1).symm
end Go.Proofs.YtilcnhdfdgmekaaGreat.FactsRefS
