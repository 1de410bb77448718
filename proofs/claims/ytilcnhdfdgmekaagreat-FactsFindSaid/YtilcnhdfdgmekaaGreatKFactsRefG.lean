/- The document's tuples that a filter means. -/
import Derived.Test.YtilcnhdfdgmekaaGreatKFactsRefF
import Derived.Test.YtilcnhdfdgmekaaGreatKHeld
namespace Go.Proofs.YtilcnhdfdgmekaaGreat.FactsRefG
open Go.RowKit Base KeyPlain TuplePlain TupleRef TupleSpec TupleCut FMap FactsPlain FactsMem FactsHas FactsPut FactsDrop FactsNew FactsFind FactsLess FactsObj FactsUsersOf FactsNames FactsOrder FactsRefS FactsFew FactsIs FactsAwake TurnB RowN FactsLawP FactsRefP FactsRefN FactsRefU FactsRefF

theorem find_done {l : List Tp} {x : Tp} {most : Int} {k : Nat} (hm : (((l.take k).filter (means x)).length : Int) ≤ max most 0) (h : l.length ≤ k ∨ most ≤ (((l.take k).filter (means x)).length : Int)) : (l.take k).filter (means x) = find l x most := by
  unfold find
  rcases h with h | h
  · rw [List.take_of_length_le h] at hm ⊢
    exact (List.take_of_length_le (by omega)).symm
  · have e : l.filter (means x) = (l.take k).filter (means x) ++ (l.drop k).filter (means x) := by rw [← List.filter_append, List.take_append_drop]
    rw [e, List.take_left' (by omega)]
set_option maxRecDepth 100000 in
set_option maxHeartbeats 12800000 in
theorem rfind_any (W : World) (A : Option Addr) (n c : Nat) (l : List Tp) (x : Tp) (most : Int) (hn : n = l.length) (hr : TRow W A l) (hl : n ≤ 1000) :
    Calls Tryz.prog 22 #[.slice A n c, .agg (tc x), .int .i64 most] W (FindPost W l x most) := by
  obtain ⟨w1, hw1⟩ : ∃ v, v = W.alloc (.cells (tc x) 43) := ⟨_, rfl⟩
  obtain ⟨b3, hb3⟩ : ∃ v, v = W.heap.size := ⟨_, rfl⟩
  have bl1 : Below W.heap.size W w1 := by rw [hw1]; exact al _ _
  have a3 : w1.heap[b3]? = some (.cells (tc x) 43 (0, 0)) := by rw [hw1, hb3]; exact heap_alloc_new W _
  have hx1 : Bx w1 b3 x := six_at a3
  have HX := Lib.hid (fun (w' : World) (hw' : Below w1.heap.size w1 w') => Bx.below hx1 hw')
  have HR := Lib.hid (hr.below bl1)
  have HBw1 := Lib.hid bl1
  have HN := Lib.hid hn
  have HB3 := Lib.hid hb3
  obtain ⟨w4, hw4⟩ : ∃ v, v = w1.alloc (.cells #[] 32) := ⟨_, rfl⟩
  obtain ⟨lo, hlo⟩ : ∃ v, v = w1.heap.size := ⟨_, rfl⟩
  have ho4 : w4.ownsRow lo 32 6 (.slice (some ⟨lo, 0, none⟩) 0 0) 0 (([] : List Tp).flatMap encT) := by rw [hw4, hlo]; exact own_empty w1
  have bl4 : Below w1.heap.size w1 w4 := by rw [hw4]; exact al _ _
  have HO4 := Lib.hid ho4
  have HB14 := Lib.hid bl4
  have HLO := Lib.hid hlo
  have HW4 := Lib.hid hw4
  have HL1 := Lib.hid (show b3 + 1 = lo by rw [hlo, hw1, hb3]; exact (Array.size_push ..).symm)
  have HS4 := Lib.hid (show lo ≤ w4.heap.size by rw [hlo]; exact bl4.size)
  unfold tc at hw1 ⊢
  have HW1 := Lib.hid hw1
  clear hw1 hb3 bl1 a3 hr hn hw4 hlo ho4 bl4 hx1
  go_enter Tryz.func22, Tryz.ntmps22
  go_upto_region 2 with fail
  rw [← HW1.out]
  try rw [← HB3.out]
  try rw [← HLO.out]
  rw [← HW4.out]
  go_wp2_with fail
  go_loopw [7, 8] (fun vo vi wr => ∃ (k : Nat) (Ao : Option Addr) (co no : Nat), k ≤ n ∧ vi = .int .i64 k ∧ no = ((l.take k).filter (means x)).length ∧ (no : Int) ≤ max most 0 ∧ vo = .slice Ao no co ∧ wr.ownsRow lo 32 6 (.slice Ao no co) no (((l.take k).filter (means x)).flatMap encT) ∧ Below lo w4 wr ∧ lo ≤ wr.heap.size) (fun _ vi _ => n - (intOf vi).toNat)
  case atStart => exact ⟨0, _, _, 0, by omega, rfl, rfl, by omega, rfl, by rw [HL1.out]; exact HO4.out, Below.refl _ _, HS4.out⟩
  case round =>
    obtain ⟨k, Ao, co, no, hk, rfl, hno, hmm, rfl, ho, hbw, hsz⟩ := hrel
    have HBW := Lib.hid hbw
    have HNO := Lib.hid hno
    have HO := Lib.hid ho
    have HSZ := Lib.hid hsz
    have HMM := Lib.hid hmm
    have HB1R := Lib.hid (show Below w1.heap.size w1 wr from HB14.out.trans (hbw.mono (by rw [HLO.out]; exact Nat.le_refl _)))
    have HOL := Lib.hid (show no ≤ 1000 by
      have h2 : ((l.take k).filter (means x)).length ≤ (l.take k).length := List.length_filter_le _ _
      rw [List.length_take] at h2
      omega)
    have HEND := Lib.hid (show (l.length ≤ k ∨ most ≤ (no : Int)) → FindPost W l x most (.returned (.slice Ao no co)) wr from fun h => by
      have e := find_done (by rw [← hno]; exact hmm) (by rw [← hno]; exact h)
      rw [e] at hno ho
      exact ⟨Ao, co, no, hno, rfl, trow_own hno ho, HBw1.out.trans (HB1R.out.mono HBw1.out.size)⟩)
    clear hno ho hbw hsz hmm
    by_cases hlt : k < n
    · by_cases hmo : (no : Int) < most
      · have h1 : k < l.length := by rw [← HN.out]; exact hlt
        obtain ⟨gl, og, hA, hgl, q0, q1, q2, q3, q4, q5⟩ := (rowT (HR.out.below HB1R.out)) k h1
        obtain ⟨p0, p1, p2, p3, p4, p5⟩ := HX.out wr HB1R.out
        have hx2 := idx_tp (n := n) (c := c) hA hlt
        have HSTEP := Lib.hid (show (l.take (k + 1)).filter (means x) = (l.take k).filter (means x) ++ if means x l[k] = true then [l[k]] else [] by
          rw [List.take_succ_eq_append_getElem h1, List.filter_append]
          congr 1
          cases hb : means x l[k] <;> simp [hb])
        have HME := Lib.hid (fun w => rmeans_any x l[k] w)
        generalize l[k] = s at *
        obtain ⟨ol, hol⟩ : ∃ v, v = og + k * 6 := ⟨_, rfl⟩
        rw [← hol] at q0 q1 q2 q3 q4 q5
        simp only [← hol] at hx2
        obtain ⟨bm, hbm⟩ : ∃ v, v = means x s := ⟨_, rfl⟩
        rw [← hbm] at HME
        have HBM := Lib.hid hbm
        have HLT := Lib.hid hlt
        have HMO := Lib.hid hmo
        clear h1 hA hgl hol hbm
        go_wp2_with fail
        refine wp_region_any (by kernel_rfl) ?_
        change wpAny _ _ _ _ _ _ _ (World.drew _)
        obtain ⟨u0, hu0⟩ : ∃ v, v = World.drew wr := ⟨_, rfl⟩
        rw [← hu0]
        have hs0 : PuS b3 gl ol x s u0 := by rw [hu0]; exact ⟨⟨p0, p1, p2, p3, p4, p5⟩, q0, q1, q2, q3, q4, q5⟩
        have hb0 : Below wr.heap.size wr u0 := by rw [hu0]; exact (Below.refl _ _).drew
        clear hu0 p0 p1 p2 p3 p4 p5 q0 q1 q2 q3 q4 q5
        refine Held.any_of_G (S := (fun w' : World => PuS b3 gl ol x s w')) (z := 5) _ _ _ _ ?_
        refine Held.G_take (i := 0) (d := 22) (v := ?_) [0, 5] rfl rfl (by kernel_rfl) (by kernel_rfl) (by kernel_rfl) (by kernel_rfl) (fun _ _ _ h => h) (Or.inl ⟨by rfl, ?_⟩) hs0 ?_
        rotate_left 1
        · intro w hSw; obtain ⟨⟨p0, p1, p2, p3, p4, p5⟩, q0, q1, q2, q3, q4, q5⟩ := hSw; go_simp <;> with_reducible rfl
        simp only [Act.put, List.setIfInBounds_toArray, List.set_cons_zero, List.set_cons_succ]
        refine Held.G_take (i := 1) (d := 23) (v := ?_) [1, 3, 4, 5] rfl rfl (by kernel_rfl) (by kernel_rfl) (by kernel_rfl) (by kernel_rfl) (fun _ _ _ h => h) (Or.inl ⟨by rfl, ?_⟩) hs0 ?_
        rotate_left 1
        · intro w hSw; clear hSw; go_simp <;> with_reducible rfl
        simp only [Act.put, List.setIfInBounds_toArray, List.set_cons_zero, List.set_cons_succ]
        refine Held.G_take (i := 2) (d := 24) (v := ?_) [2, 3, 4, 5] rfl rfl (by kernel_rfl) (by kernel_rfl) (by kernel_rfl) (by kernel_rfl) (fun _ _ _ h => h) (Or.inl ⟨by rfl, ?_⟩) hs0 ?_
        rotate_left 1
        · intro w hSw; clear hSw; go_simp <;> with_reducible rfl
        simp only [Act.put, List.setIfInBounds_toArray, List.set_cons_zero, List.set_cons_succ]
        refine Held.G_take (i := 3) (d := 25) (v := ?_) [3, 4, 5] rfl rfl (by kernel_rfl) (by kernel_rfl) (by kernel_rfl) (by kernel_rfl) (fun _ _ _ h => h) (Or.inl ⟨by rfl, ?_⟩) hs0 ?_
        rotate_left 1
        · intro w hSw; clear hSw; go_simp <;> with_reducible rfl
        simp only [Act.put, List.setIfInBounds_toArray, List.set_cons_zero, List.set_cons_succ]
        refine Held.G_take (i := 4) (d := 26) (v := ?_) [4, 5] rfl rfl (by kernel_rfl) (by kernel_rfl) (by kernel_rfl) (by kernel_rfl) (fun _ _ _ h => h) (Or.inl ⟨by rfl, ?_⟩) hs0 ?_
        rotate_left 1
        · intro w hSw; obtain ⟨⟨p0, p1, p2, p3, p4, p5⟩, q0, q1, q2, q3, q4, q5⟩ := hSw; go_simp <;> with_reducible rfl
        simp only [Act.put, List.setIfInBounds_toArray, List.set_cons_zero, List.set_cons_succ]
        refine Held.G_ready (rs := [5]) (by decide +kernel) (by simp) ?_
        refine Held.G_last rfl (fun KK hK => ?_) Held.G_nil
        go_simp
        have hh := HME.out u0
        dsimp only [tc] at hh
        (with_reducible refine hh.mono ?_)
        clear hh
        rintro e u1 ⟨rfl, hbu⟩
        have hs1 := PuS.below hs0 hbu
        have hb1 := Below.step hb0 hbu
        clear hs0 hb0 hbu
        go_simp
        refine hK _ _ ?_
        clear hK KK
        refine Held.G_done (by kernel_rfl) ?_ _
        obtain ⟨⟨p0, p1, p2, p3, p4, p5⟩, q0, q1, q2, q3, q4, q5⟩ := hs1
        have hob := own_same (w' := u1) HO.out fun j hj => hb1.block j (HO.out.lt j hj).2
        have hszb : lo ≤ u1.heap.size := Nat.le_trans HSZ.out hb1.size
        have HB1 := Lib.hid hb1
        clear p0 p1 p2 p3 p4 p5
        cases bm with
        | true =>
          obtain ⟨A2, c2, v2, hrun2, ho2, hbv2⟩ := app_one hob s (by have := HOL.out; omega) hszb 22
          have HS := Lib.hid (show (l.take (k + 1)).filter (means x) = (l.take k).filter (means x) ++ [s] by rw [HSTEP.out, if_pos HBM.out.symm])
          have HO2 := Lib.hid (show v2.ownsRow lo 32 6 (.slice A2 (no + 1) c2) (no + 1) (((l.take k).filter (means x) ++ [s]).flatMap encT) by simpa using ho2)
          have HBV := Lib.hid (show Below lo wr v2 from (Below.trans (hb1.mono HSZ.out) hbv2))
          have HSV := Lib.hid (Nat.le_trans hszb hbv2.size)
          clear ho2 hbv2 hob hb1
          go_wp2_with (at_builtin; first | refine wpList_append_run rfl (.tmp 28) (.tmp 33) 22 22 rfl rfl rfl hrun2 ?_)
          go_roundw
          case rel => exact ⟨k + 1, A2, c2, no + 1, by have := HLT.out; omega, by go_num, by rw [HS.out, HNO.out]; simp, by have := HMO.out; omega, rfl, by rw [HS.out]; exact HO2.out, HBW.out.trans HBV.out, HSV.out⟩
          case measure => have := HLT.out; simp [intOf]; omega
        | false =>
          have HS := Lib.hid (show (l.take (k + 1)).filter (means x) = (l.take k).filter (means x) by rw [HSTEP.out, if_neg (by rw [← HBM.out]; decide), List.append_nil])
          have HO2 := Lib.hid hob
          clear hob hb1 q0 q1 q2 q3 q4 q5
          go_wp2_with fail
          go_roundw
          case rel => exact ⟨k + 1, Ao, co, no, by have := HLT.out; omega, by go_num, by rw [HS.out]; exact HNO.out, HMM.out, rfl, by rw [HS.out]; exact HO2.out, HBW.out.trans (HB1.out.mono HSZ.out), Nat.le_trans HSZ.out HB1.out.size⟩
          case measure => have := HLT.out; simp [intOf]; omega
      · have HF := Lib.hid (HEND.out (.inr (by omega)))
        go_wp2_with fail
        go_ret
        exact HF.out
    · have HF := Lib.hid (HEND.out (.inl (by have := HN.out; omega)))
      go_wp2_with fail
      go_ret
      exact HF.out
end Go.Proofs.YtilcnhdfdgmekaaGreat.FactsRefG
