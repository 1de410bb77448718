/- The document's sets: all put, one dropped. -/
import Derived.Test.YtilcnhdfdgmekaaGreatKFactsRefP
namespace Go.Proofs.YtilcnhdfdgmekaaGreat.FactsRefN
open Go.RowKit Base KeyPlain TuplePlain TupleRef TupleSpec TupleCut FMap FactsPlain FactsMem FactsHas FactsPut FactsDrop FactsNew FactsFind FactsLess FactsObj FactsUsersOf FactsNames FactsOrder FactsRefS FactsFew FactsIs FactsAwake TurnB RowN FactsLawP FactsRefP

def RNewPost (w : World) (l : List Tp) (e : Ending) (w' : World) : Prop := ∃ (A : Option Addr) (c n : Nat), n = l.length ∧ e = .returned (.slice A n c) ∧ TRow w' A l ∧ Below w.heap.size w w'
theorem trow_none (w : World) (g : Nat) : TRow w (some ⟨g, 0, none⟩) [] := fun i hi => by simp at hi
set_option maxRecDepth 100000 in
set_option maxHeartbeats 12800000 in
theorem rnew_any (W : World) (A : Option Addr) (n c : Nat) (l : List Tp) (hn : n = l.length) (hr : TRow W A l) (hl : n ≤ 100) (hT : ∀ s ∈ l, TpF s) :
    Calls Tryz.prog 12 #[.slice A n c] W (RNewPost W (new l)) := by
  have HR := Lib.hid hr
  have HN := Lib.hid hn
  have HTF := Lib.hid hT
  clear hr hn hT
  go_enter Tryz.func12, Tryz.ntmps12
  go_upto_region 2 with fail
  obtain ⟨w1, hw1⟩ : ∃ v, v = W.alloc (.cells #[] 32) := ⟨_, rfl⟩
  have bl1 : Below W.heap.size W w1 := by rw [hw1]; exact al _ _
  have HB1 := Lib.hid bl1
  rw [← hw1]
  clear hw1 bl1
  go_wp2_with fail
  go_loopw [3, 4] (fun vo vi wr => ∃ (k : Nat) (Ao : Option Addr) (co no : Nat), k ≤ n ∧ vi = .int .i64 k ∧ no = (new (l.take k)).length ∧ vo = .slice Ao no co ∧ TRow wr Ao (new (l.take k)) ∧ Below W.heap.size W wr) (fun _ vi _ => n - (intOf vi).toNat)
  case atStart => exact ⟨0, _, _, 0, by omega, rfl, rfl, rfl, trow_none _ _, HB1.out⟩
  case round =>
    obtain ⟨k, Ao, co, no, hk, rfl, hno, rfl, hro, hbw⟩ := hrel
    have HBW := Lib.hid hbw
    have HNO := Lib.hid hno
    have HRO := Lib.hid hro
    by_cases hlt : k < n
    · have h1 : k < l.length := by rw [← HN.out]; exact hlt
      obtain ⟨gl, ol, hA, hgl, q0, q1, q2, q3, q4, q5⟩ := (rowT (HR.out.below hbw)) k h1
      have hx2 := idx_tp (n := n) (c := c) hA hlt
      have hput := rput_any wr Ao no co (new (l.take k)) l[k] hno hro (by
        have h2 := new_len (l.take k)
        rw [List.length_take] at h2
        omega) (fun s hs => HTF.out s (List.mem_of_mem_take (new_mem.1 hs).1)) (HTF.out _ (List.getElem_mem h1))
      have HST := Lib.hid (show new (l.take (k + 1)) = putT (new (l.take k)) l[k] by rw [List.take_succ_eq_append_getElem h1, new_snoc])
      generalize l[k] = t at *
      have HLT := Lib.hid hlt
      unfold RPutPost tc at hput
      clear h1 hA hgl hno hro hbw
      go_wp2_with fail
      (with_reducible refine hput.mono ?_)
      clear hput q0 q1 q2 q3 q4 q5 hx2
      rintro e w2 ⟨A2, c2, n2, hn2, rfl, hr2, hb2⟩
      have HN2 := Lib.hid hn2
      have HR2 := Lib.hid hr2
      have HB2 := Lib.hid (HBW.out.trans (hb2.mono HBW.out.size))
      clear hn2 hr2 hb2
      go_wp2_with fail
      go_roundw
      case rel => exact ⟨k + 1, A2, c2, n2, by have := HLT.out; omega, by go_num, by rw [HST.out]; exact HN2.out, rfl, by rw [HST.out]; exact HR2.out, HB2.out⟩
      case measure => have := HLT.out; simp [intOf]; omega
    · have HF := Lib.hid (show RNewPost W (new l) (.returned (.slice Ao no co)) wr by
        have hk' : k = n := by omega
        rw [hk', List.take_of_length_le (by rw [HN.out]; exact Nat.le_refl _)] at hno hro
        exact ⟨Ao, co, no, hno, rfl, hro, hbw⟩)
      clear hno hro hbw
      go_wp2_with fail
      go_ret
      exact HF.out
set_option maxRecDepth 100000 in
set_option maxHeartbeats 12800000 in
theorem rdrop_any (W : World) (A : Option Addr) (n c : Nat) (l : List Tp) (t : Tp) (hn : n = l.length) (hr : TRow W A l) (hl : n ≤ 1000) :
    Calls Tryz.prog 17 #[.slice A n c, .agg (tc t)] W (RNewPost W (drop l t)) := by
  obtain ⟨w1, hw1⟩ : ∃ v, v = W.alloc (.cells (tc t) 32) := ⟨_, rfl⟩
  obtain ⟨b3, hb3⟩ : ∃ v, v = W.heap.size := ⟨_, rfl⟩
  have bl1 : Below W.heap.size W w1 := by rw [hw1]; exact al _ _
  have a3 : w1.heap[b3]? = some (.cells (tc t) 32 (0, 0)) := by rw [hw1, hb3]; exact heap_alloc_new W _
  have hx1 : Bx w1 b3 t := six_at a3
  have HX := Lib.hid (fun (w' : World) (hw' : Below w1.heap.size w1 w') => Bx.below hx1 hw')
  have HR := Lib.hid (hr.below bl1)
  have HBw1 := Lib.hid bl1
  have HN := Lib.hid hn
  have HB3 := Lib.hid hb3
  obtain ⟨w4, hw4⟩ : ∃ v, v = w1.alloc (.cells #[] 32) := ⟨_, rfl⟩
  obtain ⟨lo, hlo⟩ : ∃ v, v = w1.heap.size := ⟨_, rfl⟩
  have ho4 : w4.ownsRow lo 32 6 (.slice (some ⟨lo, 0, none⟩) 0 0) 0 (([] : List Tp).flatMap encT) := by rw [hw4, hlo]; exact own_empty w1
  have bl4 : Below w1.heap.size w1 w4 := by rw [hw4]; exact al _ _
  have HO4 := Lib.hid ho4
  have HB14 := Lib.hid bl4
  have HLO := Lib.hid hlo
  have HW4 := Lib.hid hw4
  have HL1 := Lib.hid (show b3 + 1 = lo by rw [hlo, hw1, hb3]; exact (Array.size_push ..).symm)
  have HTE := Lib.hid (fun x w => tp_ne x t w)
  unfold tc at hw1 ⊢
  have HW1 := Lib.hid hw1
  clear hw1 hb3 bl1 a3 hr hn hw4 hlo ho4 bl4 hx1
  go_enter Tryz.func17, Tryz.ntmps17
  go_upto_region 2 with fail
  rw [← HW1.out]
  try rw [← HB3.out]
  try rw [← HLO.out]
  rw [← HW4.out]
  go_wp2_with fail
  go_loopw [5, 6] (fun vo vi wr => ∃ (k : Nat) (Ao : Option Addr) (co no : Nat), k ≤ n ∧ vi = .int .i64 k ∧ no = (drop (l.take k) t).length ∧ vo = .slice Ao no co ∧ wr.ownsRow lo 32 6 (.slice Ao no co) no ((drop (l.take k) t).flatMap encT) ∧ Below w1.heap.size w1 wr) (fun _ vi _ => n - (intOf vi).toNat)
  case atStart => exact ⟨0, _, _, 0, by omega, rfl, rfl, rfl, by rw [HL1.out]; exact HO4.out, HB14.out⟩
  case round =>
    obtain ⟨k, Ao, co, no, hk, rfl, hno, rfl, ho, hbw⟩ := hrel
    have HBW := Lib.hid hbw
    have HNO := Lib.hid hno
    have HO := Lib.hid ho
    have HOL := Lib.hid (show no ≤ 1000 by
      have h2 : (drop (l.take k) t).length ≤ (l.take k).length := List.length_filter_le _ _
      rw [List.length_take] at h2
      omega)
    by_cases hlt : k < n
    · have h1 : k < l.length := by rw [← HN.out]; exact hlt
      obtain ⟨gl, og, hA, hgl, q0, q1, q2, q3, q4, q5⟩ := (rowT (HR.out.below hbw)) k h1
      obtain ⟨p0, p1, p2, p3, p4, p5⟩ := HX.out wr hbw
      have hx2 := idx_tp (n := n) (c := c) hA hlt
      have hne := HTE.out l[k]
      have HST := Lib.hid (show drop (l.take (k + 1)) t = drop (l.take k) t ++ (if l[k] = t then [] else [l[k]]) by
        rw [List.take_succ_eq_append_getElem h1]
        unfold drop
        rw [List.filter_append]
        by_cases he : l[k] = t <;> simp [he])
      generalize l[k] = s at *
      obtain ⟨ol, hol⟩ : ∃ v, v = og + k * 6 := ⟨_, rfl⟩
      rw [← hol] at q0 q1 q2 q3 q4 q5
      simp only [← hol] at hx2
      have HLT := Lib.hid hlt
      unfold tc at hne
      clear h1 hA hgl hno ho hbw hol
      by_cases he : s = t
      · have HS := Lib.hid (show drop (l.take (k + 1)) t = drop (l.take k) t by rw [HST.out]; simp [he])
        rw [decide_eq_true he] at hne
        simp only [Bool.not_true] at hne
        clear he
        go_wp2_with fail
        go_quiet (fail)
        go_wp2_with fail
        go_roundw
        case rel => exact ⟨k + 1, Ao, co, no, by have := HLT.out; omega, by go_num, by rw [HS.out]; exact HNO.out, rfl, by rw [HS.out]; exact HO.out, HBW.out.trans (Base.below_drewN _ _ _)⟩
        case measure => have := HLT.out; simp [intOf]; omega
      · have HS := Lib.hid (show drop (l.take (k + 1)) t = drop (l.take k) t ++ [s] by rw [HST.out]; simp [he])
        rw [decide_eq_false he] at hne
        simp only [Bool.not_false] at hne
        clear he
        go_wp2_with fail
        go_quiet (fail)
        obtain ⟨A2, c2, v2, hrun2, ho2, hbv2⟩ := app_one (w := wr.drewN nq) HO.out s (by have := HOL.out; omega) (show lo ≤ wr.heap.size by rw [HLO.out]; exact HBW.out.size) 22
        have HO2 := Lib.hid (show v2.ownsRow lo 32 6 (.slice A2 (no + 1) c2) (no + 1) ((drop (l.take k) t ++ [s]).flatMap encT) by simpa using ho2)
        have HBV := Lib.hid (show Below w1.heap.size w1 v2 from HBW.out.trans ((Base.below_drewN _ _ _).trans (by rw [← HLO.out]; exact hbv2)))
        clear ho2 hbv2 p0 p1 p2 p3 p4 p5 hne
        go_wp2_with (at_builtin; first | refine wpList_append_run rfl (.tmp 20) (.tmp 25) 22 22 rfl rfl rfl hrun2 ?_)
        go_roundw
        case rel => exact ⟨k + 1, A2, c2, no + 1, by have := HLT.out; omega, by go_num, by rw [HS.out, HNO.out]; simp, rfl, by rw [HS.out]; exact HO2.out, HBV.out⟩
        case measure => have := HLT.out; simp [intOf]; omega
    · have HF := Lib.hid (show RNewPost W (drop l t) (.returned (.slice Ao no co)) wr by
        have hk' : k = n := by omega
        rw [hk', List.take_of_length_le (by rw [HN.out]; exact Nat.le_refl _)] at hno ho
        exact ⟨Ao, co, no, hno, rfl, trow_own hno ho, HBw1.out.trans (hbw.mono HBw1.out.size)⟩)
      clear hno ho hbw
      go_wp2_with fail
      go_ret
      exact HF.out
end Go.Proofs.YtilcnhdfdgmekaaGreat.FactsRefN
