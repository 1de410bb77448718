/- The walk of FactsOrder. -/
import Derived.Test.YtilcnhdfdgmekaaGreatKFactsRot
import Derived.Test.YtilcnhdfdgmekaaGreatKHeld
namespace Go.Proofs.YtilcnhdfdgmekaaGreat.FactsOrderL
open Go.RowKit Base KeyPlain TuplePlain TupleRef TupleSpec TupleCut FMap FactsPlain FactsMem FactsHas FactsPut FactsDrop FactsNew FactsFind FactsLess FactsObj FactsUsersOf FactsNames FactsOrder FactsRefS FactsFew FactsIs FactsAwake TurnB RowN FactsLawP FactsRot

set_option maxRecDepth 100000 in
set_option maxHeartbeats 25600000 in
theorem order_any (A : Option Addr) (c : Nat) (l : List Tp) (at_ : Nat) (W : World) (hr : TRow W A l) (hT : ∀ t ∈ l, TpF t) (hz : l.length * 96 ≤ reachBytes) (hcap : l.length ≤ c) (hat : at_ ≤ 255) :
    Calls Tryz.prog 5 #[.slice A l.length c, .int .u8 (at_ : Int)] W (Law W) := by
  have HR := Lib.hid hr
  have HTF := Lib.hid hT
  have HZ := Lib.hid hz
  obtain ⟨n, hn⟩ : ∃ v, v = l.length := ⟨_, rfl⟩
  rw [← hn] at hz hcap ⊢
  have HZ := Lib.hid (show n * 96 ≤ 140737488355328 by unfold reachBytes at hz; omega)
  have HNL := Lib.hid hn
  obtain ⟨m, hm⟩ : ∃ v, new l = v := ⟨_, rfl⟩
  have HM := Lib.hid hm
  have HMU := Lib.hid (show Up ltT m by rw [← hm]; exact new_up l)
  have HML := Lib.hid (show m.length * 96 ≤ 140737488355328 by have := new_len l; rw [hm] at this; unfold reachBytes at hz; omega)
  clear hr hT hz hn hm
  have HBW := Lib.hid (Below.refl W.heap.size W)
  have hnn : n ≤ c := hcap
  go_enter Tryz.func5, Tryz.ntmps5
  go_wp2_with fail
  (with_reducible refine (awake_any _).mono ?_)
  rintro e w5 ⟨rfl, hb⟩
  have HBw5 := Lib.hid hb
  clear hb
  have hfew := few_any w5 A n c l HNL.out (rowT (HR.out.below HBw5.out)) (by have := HZ.out; omega)
  go_wp2_with fail
  (with_reducible refine hfew.mono ?_)
  clear hfew
  rintro e w6 ⟨rfl, hb⟩
  have HBw6 := Lib.hid (HBw5.out.trans (hb.mono HBw5.out.size))
  cases hf : fewB l with
  | false =>
    clear hb hf
    go_wp2_with fail
    (with_reducible refine (awake_any _).mono ?_)
    rintro e wz ⟨rfl, hbz⟩
    have HBZ := Lib.hid (HBw6.out.trans (hbz.mono HBw6.out.size))
    clear hbz
    go_wp2_with fail
    go_ret
    exact ⟨rfl, HBZ.out⟩
  | true =>
    have HFT := Lib.hid (few_len hf)
    have HMM := Lib.hid (show m.length ≤ 80 by have := new_len l; rw [HM.out] at this; have := few_len hf; omega)
    clear hb hf
    by_cases hn0 : n = 0
    · skip
      have e0 : ((n : Int) == 0) = true := by rw [hn0]; rfl
      clear hn0
      go_wp2_with fail
      (with_reducible refine (awake_any _).mono ?_)
      rintro e wz ⟨rfl, hbz⟩
      have HBZ := Lib.hid (HBw6.out.trans (hbz.mono HBw6.out.size))
      clear hbz
      go_wp2_with fail
      go_ret
      exact ⟨rfl, HBZ.out⟩
    have e0 : ((n : Int) == 0) = false := by rw [beq_eq_false_iff_ne]; omega
    obtain ⟨k, hk⟩ : ∃ v, v = at_ % n := ⟨_, rfl⟩
    have hkl : k < n := by rw [hk]; exact Nat.mod_lt _ (by omega)
    have hrem : ((at_ : Int)).tmod (n : Int) = (k : Int) := by rw [hk]; rfl
    have inz : ¬ ((n : Int) = 0) := by omega
    have hn80 : n ≤ 80 := by have := HFT.out; have := HNL.out; omega
    clear hk hn0
    go_upto_region 4 with fail
    clear e0 hrem inz
    have HKL := Lib.hid hkl
    have HN80 := Lib.hid hn80
    clear hkl hn80
    obtain ⟨A1, c1, w7, hrun, hr1, hb1⟩ := run_copy (c := c) HNL.out (HR.out.below HBw6.out) HZ.out 22
    have HNEW := Lib.hid (is_new (n := n) (c := c1) l HNL.out (by have := HZ.out; omega) hr1 HTF.out)
    have HBM := Lib.hid (HBw6.out.trans (hb1.mono HBw6.out.size))
    have HSM := Lib.hid hb1
    clear hr1 hb1
    go_wp2_with (at_builtin; first | refine wpList_append_run rfl (.tmp 28) (.tmp 29) 22 22 rfl rfl rfl hrun ?_)
    clear hrun
    (with_reducible refine HNEW.out.mono ?_)
    rintro e w8 hq
    unfold MadePost at hq
    obtain ⟨fb, rfl, his, hbn⟩ := hq
    rw [HM.out] at his
    have HIS := Lib.hid his
    have HBw8 := Lib.hid (HBM.out.trans (hbn.mono HBM.out.size))
    have HSw8 := Lib.hid (HSM.out.trans (hbn.mono HSM.out.size))
    have HLO := Lib.hid (show w7.heap.size ≤ w8.heap.size ∧ W.heap.size ≤ w7.heap.size from ⟨hbn.size, HBM.out.size⟩)
    obtain ⟨lo, hlo⟩ : ∃ v, v = w7.heap.size := ⟨_, rfl⟩
    rw [← hlo] at HIS HLO
    clear his hbn HNEW HBM HSM hlo
    obtain ⟨g, o, hA, _⟩ := HR.out 0 (by have := HKL.out; have := HNL.out; omega)
    subst hA
    go_upto_region 5 with fail
    have hsl := fun w => slice_lt g o n c k HKL.out hnn w
    have hsh := fun w => slice_ht g o n c k (by have := HKL.out; omega) w
    obtain ⟨A2, c2, v1, A3, c3, v2, hr5, hr6, ho6, hb6⟩ := run_rot (w := World.drew w8) (c := c) HNL.out ((HR.out.below HBw8.out).below (show Below w8.heap.size w8 (World.drew w8) from (Below.refl _ _).drew)) HKL.out (by have := HN80.out; omega) 22
    have hb8 : Below w8.heap.size w8 v2 := Below.step (show Below w8.heap.size w8 (World.drew w8) from (Below.refl _ _).drew) hb6
    obtain ⟨A4, c4, v3, hr7, hrow7, hb7⟩ := run_more (m := n) (c := c) (q := l.drop k ++ l.take k) (by rw [List.length_append, List.length_drop, List.length_take]; have := HKL.out; have := HNL.out; omega) HNL.out ((HR.out.below HBw8.out).below hb8) ho6 (by have := HN80.out; omega) hb8 hb8.size 22
    have hmem : ∀ t, t ∈ (l.drop k ++ l.take k) ++ l ↔ t ∈ l := fun t => by
      rw [List.mem_append]
      exact ⟨fun h => h.elim (fun h => (List.mem_append.1 h).elim List.mem_of_mem_drop List.mem_of_mem_take) id, Or.inr⟩
    have HNEW2 := Lib.hid (is_new (n := n + n) (c := c4) ((l.drop k ++ l.take k) ++ l) (by rw [List.length_append, List.length_append, List.length_drop, List.length_take]; have := HKL.out; have := HNL.out; omega) (by have := HN80.out; omega) hrow7 (fun t ht => HTF.out t ((hmem t).1 ht)))
    rw [new_ext hmem, HM.out] at HNEW2
    have HB7 := Lib.hid (show Below w8.heap.size w8 v3 from hb7)
    clear ho6 hb6 hb8 hrow7 hb7 hmem
    refine wp_region_any (by kernel_rfl) ?_
    change wpAny _ _ _ _ _ _ _ (World.drew _)
    refine Reg.take_at (i := 1) (d := 33) (v := ?_) rfl rfl (by kernel_rfl) (by kernel_rfl) (by kernel_rfl) (fun _ _ _ h => h) (Or.inl ⟨by rfl, ?_⟩) ?_
    rotate_left 1
    · intro w; go_simp <;> with_reducible rfl
    simp only [Act.put, List.setIfInBounds_toArray, List.set_cons_zero, List.set_cons_succ]
    refine Reg.take_at (i := 2) (d := 34) (v := ?_) rfl rfl (by kernel_rfl) (by kernel_rfl) (by kernel_rfl) (fun _ _ _ h => h) (Or.inl ⟨by rfl, ?_⟩) ?_
    rotate_left 1
    · intro w; go_simp <;> with_reducible rfl
    simp only [Act.put, List.setIfInBounds_toArray, List.set_cons_zero, List.set_cons_succ]
    refine Reg.take_at (i := 3) (d := 35) (v := ?_) rfl rfl (by kernel_rfl) (by kernel_rfl) (by kernel_rfl) (fun _ _ _ h => h) (Or.inl ⟨by rfl, ?_⟩) ?_
    rotate_left 1
    · intro w; go_simp <;> with_reducible rfl
    simp only [Act.put, List.setIfInBounds_toArray, List.set_cons_zero, List.set_cons_succ]
    refine Reg.take_at (i := 5) (d := 37) (v := ?_) rfl rfl (by kernel_rfl) (by kernel_rfl) (by kernel_rfl) (fun _ _ _ h => h) (Or.inl ⟨by rfl, ?_⟩) ?_
    rotate_left 1
    · intro w; go_simp <;> with_reducible rfl
    simp only [Act.put, List.setIfInBounds_toArray, List.set_cons_zero, List.set_cons_succ]
    refine Reg.take_at (i := 6) (d := 38) (v := ?_) rfl rfl (by kernel_rfl) (by kernel_rfl) (by kernel_rfl) (fun _ _ _ h => h) (Or.inl ⟨by rfl, ?_⟩) ?_
    rotate_left 1
    · intro w; go_simp <;> with_reducible rfl
    simp only [Act.put, List.setIfInBounds_toArray, List.set_cons_zero, List.set_cons_succ]
    refine Reg.take_at (i := 7) (d := 39) (v := ?_) rfl rfl (by kernel_rfl) (by kernel_rfl) (by kernel_rfl) (fun _ _ _ h => h) (Or.inl ⟨by rfl, ?_⟩) ?_
    rotate_left 1
    · intro w; go_simp <;> with_reducible rfl
    simp only [Act.put, List.setIfInBounds_toArray, List.set_cons_zero, List.set_cons_succ]
    refine Reg.take_at (i := 9) (d := 41) (v := ?_) rfl rfl (by kernel_rfl) (by kernel_rfl) (by kernel_rfl) (fun _ _ _ h => h) (Or.inl ⟨by rfl, ?_⟩) ?_
    rotate_left 1
    · intro w; go_simp <;> with_reducible rfl
    simp only [Act.put, List.setIfInBounds_toArray, List.set_cons_zero, List.set_cons_succ]
    refine wpAny_ready (rs := [0]) (by decide +kernel) (by simp) ?_
    refine AllReady.cons rfl (fun KK hK => ?_) AllReady.nil
    go_simp
    refine hK _ _ ?_
    clear hK KK
    refine wpAny_ready (rs := [4]) (by decide +kernel) (by simp) ?_
    refine AllReady.cons rfl (fun KK hK => ?_) AllReady.nil
    refine step_append_d (d := 36) rfl rfl (.tmp 32) (.tmp 35) 22 22 rfl (vs := _) (vx := _) (by simp [Act.eval]) (by simp [Act.eval]) hr5 ?_
    refine hK _ _ ?_
    clear hK KK
    refine wpAny_ready (rs := [8]) (by decide +kernel) (by simp) ?_
    refine AllReady.cons rfl (fun KK hK => ?_) AllReady.nil
    refine step_append_d (d := 40) rfl rfl (.tmp 36) (.tmp 39) 22 22 rfl (vs := _) (vx := _) (by simp [Act.eval, Act.put]) (by simp [Act.eval, Act.put]) hr6 ?_
    refine hK _ _ ?_
    clear hK KK
    refine wpAny_ready (rs := [10]) (by decide +kernel) (by simp) ?_
    refine AllReady.cons rfl (fun KK hK => ?_) AllReady.nil
    refine step_append_d (d := 42) rfl rfl (.tmp 40) (.tmp 41) 22 22 rfl (vs := _) (vx := _) (by simp [Act.eval, Act.put]) (by simp [Act.eval, Act.put]) hr7 ?_
    refine hK _ _ ?_
    clear hK KK
    refine wpAny_ready (rs := [11]) (by decide +kernel) (by simp) ?_
    refine AllReady.cons rfl (fun KK hK => ?_) AllReady.nil
    go_simp
    (with_reducible refine HNEW2.out.mono ?_)
    rintro e w9 hq
    unfold MadePost at hq
    obtain ⟨fb2, rfl, his2, hb9⟩ := hq
    have HB89 := Lib.hid (Below.step HB7.out hb9)
    have HIS2 := Lib.hid his2
    have HIS9 := Lib.hid (HIS.out.below HB89.out)
    have HBw9 := Lib.hid (HBw8.out.trans (HB89.out.mono HBw8.out.size))
    clear his2 hb9
    go_simp
    refine hK _ _ ?_
    clear hK KK
    refine Reg.take_at (i := 12) (d := 7) (v := ?_) rfl rfl (by kernel_rfl) (by kernel_rfl) (by kernel_rfl) (fun _ _ _ h => h) (Or.inl ⟨by rfl, ?_⟩) ?_
    rotate_left 1
    · intro w; go_simp <;> with_reducible rfl
    simp only [Act.put, List.setIfInBounds_toArray, List.set_cons_zero, List.set_cons_succ]
    refine wpAny_done (by kernel_rfl) ?_ _
    clear hr5 hr6 hr7 hsl hsh
    obtain ⟨lo2, hlo2⟩ : ∃ v, v = v3.heap.size := ⟨_, rfl⟩
    rw [← hlo2] at HIS2
    have hall := HIS9.out.all HML.out
    unfold AllPost at hall
    go_wp2_with fail
    (with_reducible refine hall.mono ?_)
    clear hall
    rintro e w10 ⟨A5, c5, n5, hn5, rfl, _, _, hr5, hb10⟩
    have HR5 := Lib.hid (rowT hr5)
    have HN5 := Lib.hid hn5
    have HB10 := Lib.hid hb10
    have hn80 : n5 ≤ 80 := by have := new_len l; rw [HM.out] at this; have := HFT.out; omega
    clear hr5 hn5 hb10
    go_wp2_with fail
    go_loopw [9] (fun i wr => ∃ j : Nat, (j < n5 ∨ j = 0) ∧ i = .int .i64 ((j : Int) + 1) ∧ Below w10.heap.size w10 wr) (fun i _ => n5 + 1 - (intOf i).toNat)
    case atStart => exact ⟨0, .inr rfl, rfl, Below.refl _ _⟩
    case round =>
      obtain ⟨j, hj, rfl, hbw⟩ := hrel
      have HJ := Lib.hid hj
      have HBW10 := Lib.hid hbw
      clear hj
      by_cases hlt : j + 1 < n5
      · have h1 : j + 1 < m.length := by rw [← HN5.out]; exact hlt
        obtain ⟨g1, o1, hA, hg1, d0, d1, d2, d3, d4, d5⟩ := (HR5.out.below hbw) (j + 1) h1
        obtain ⟨g2, o2, hB, hg2, e0, e1, e2, e3, e4, e5⟩ := (HR5.out.below hbw) j (by omega)
        have hne : m[j + 1] ≠ m[j] := fun e => by
          have := (List.pairwise_iff_getElem.1 HMU.out) j (j + 1) (by omega) h1 (by omega)
          rw [e, ordT.irr] at this
          cases this
        have hx1 : ∀ w, (Instr.indexAt 22 (.slice A5 n5 c5) (.int .i64 ((j : Int) + 1))).run Tryz.prog w = .ok (.pointer (some ⟨g1, o1 + (j + 1) * 6, none⟩)) w := fun w => by
          have := idx_tp (n := n5) (c := c5) (i := j + 1) hA hlt w
          simpa using this
        have hx2 := idx_tp (n := n5) (c := c5) (i := j) hB (by omega)
        have hq := TupleEq.tp_eq m[j + 1] m[j]
        rw [show decide (m[j + 1] = m[j]) = false from decide_eq_false hne] at hq
        generalize o1 + (j + 1) * 6 = q1 at *
        generalize o2 + j * 6 = q2 at *
        generalize m[j + 1] = t1 at *
        generalize m[j] = t2 at *
        obtain ⟨hsub, hsub2, hl⟩ : wrap64 (j : Int) = (j : Int) ∧ wrap64 ((j : Int) + 1 + 1) = (j : Int) + 1 + 1 ∧ ((j : Int) + 1 < (n5 : Int)) = True := ⟨wrap_ok _ (by omega) (by omega), wrap_ok _ (by omega) (by omega), eq_true (by omega)⟩
        unfold tc at hq
        have HLT := Lib.hid hlt
        clear h1 hA hB hg1 hg2 hbw hne hlt
        go_wp2_with fail
        go_quiet (fail)
        go_wp2_with fail
        have HS2 := Lib.hid hsub2
        clear hsub hsub2 hl
        go_roundw
        case rel => exact ⟨j + 1, .inl HLT.out, by rw [HS2.out]; simp, HBW10.out.trans (Base.below_drewN _ _ _)⟩
        case measure => have := HLT.out; rw [HS2.out]; clear HS2; simp [intOf]; omega
      · have hl : ¬ ((j : Int) + 1 < (n5 : Int)) := by omega
        have hb910 : Below w9.heap.size w9 wr := Below.step HB10.out hbw
        have hall := (HIS2.out.below hb910).all HML.out
        unfold AllPost at hall
        have HPA := Lib.hid (fun (w : World) (hb : Below w9.heap.size w9 w) => (HIS9.out.below hb).people HML.out)
        have HPB := Lib.hid (fun (w : World) (hb : Below w9.heap.size w9 w) => (HIS2.out.below hb).people HML.out)
        have HS0 := Lib.hid hb910
        have HR6 := Lib.hid (HR5.out.below hbw)
        clear hlt hbw hb910
        go_wp2_with fail
        (with_reducible refine hall.mono ?_)
        clear hall
        rintro e w11 ⟨A6, c6, n6, hn6, rfl, _, _, hr6, hb11⟩
        have HS1 := Lib.hid (Below.step HS0.out hb11)
        have hsame := rsame_t w11 A5 A6 n5 c5 n6 c6 m m true HN5.out hn6 (HR6.out.below hb11) (rowT hr6) (by have := HMM.out; omega) (by simp)
        clear hr6 hn6 hb11
        go_wp2_with fail
        (with_reducible refine hsame.mono ?_)
        clear hsame
        rintro e w12 ⟨rfl, hb12⟩
        have HS2 := Lib.hid (Below.step HS1.out hb12)
        have hpa := HPA.out _ HS2.out
        unfold UsersPost at hpa
        clear hb12
        go_wp2_with fail
        (with_reducible refine hpa.mono ?_)
        clear hpa
        rintro e w13 ⟨A7, c7, n7, hn7, rfl, hr7, hb13⟩
        have HS3 := Lib.hid (Below.step HS2.out hb13)
        have HR7 := Lib.hid (rowU hr7)
        have HN7 := Lib.hid hn7
        have hpb := HPB.out _ HS3.out
        unfold UsersPost at hpb
        clear hr7 hn7 hb13
        go_wp2_with fail
        (with_reducible refine hpb.mono ?_)
        clear hpb
        rintro e w14 ⟨A8, c8, n8, hn8, rfl, hr8, hb14⟩
        have HS4 := Lib.hid (Below.step HS3.out hb14)
        have hsame := rsame_u w14 A7 A8 n7 c7 n8 c8 (people m) (people m) true HN7.out hn8 (HR7.out.below hb14) (rowU hr8) (by have := FactsPlain.mk_len (lt := ltU) (m.map (·.u)); rw [List.length_map] at this; unfold people; have := HMM.out; omega) (by simp)
        clear hr8 hn8 hb14
        go_wp2_with fail
        (with_reducible refine hsame.mono ?_)
        clear hsame
        rintro e w15 ⟨rfl, hb15⟩
        have HF := Lib.hid (HBw9.out.trans ((Below.step HS4.out hb15).mono HBw9.out.size))
        clear hb15
        go_wp2_with fail
        go_ret
        exact ⟨rfl, HF.out⟩
end Go.Proofs.YtilcnhdfdgmekaaGreat.FactsOrderL
