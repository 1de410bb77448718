/- The walk of FactsPlay. -/
import Derived.Test.YtilcnhdfdgmekaaGreatKFactsPlumb
import Derived.Test.YtilcnhdfdgmekaaGreatKFactsRefN
namespace Go.Proofs.YtilcnhdfdgmekaaGreat.FactsPlay
open Go.RowKit Base KeyPlain TuplePlain TupleRef TupleSpec TupleCut FMap FactsPlain FactsMem FactsHas FactsPut FactsDrop FactsNew FactsFind FactsLess FactsObj FactsUsersOf FactsNames FactsOrder FactsRefS FactsFew FactsIs FactsAwake TurnB RowN FactsLawP FactsRefP FactsRefN

theorem ARow.wn {lo : Nat} {w w' : World} {A : Option Addr} {l : List (Int × Tp)} (h : FactsPlumb.ARow w A l) (hb : Wn lo w w') : FactsPlumb.ARow w' A l := fun i hi => by
  obtain ⟨g, o, hA, hg, hc⟩ := h i hi
  exact ⟨g, o, hA, Nat.lt_of_lt_of_le hg hb.size, fun j v hv => cell_wn hb (hc j v hv)⟩
theorem act_cells {w : World} {A : Option Addr} {l : List (Int × Tp)} (h : FactsPlumb.ARow w A l) {k : Nat} (hk : k < l.length) : ∃ g o, A = some ⟨g, o, none⟩ ∧ g < w.heap.size ∧ w.cell? ⟨g, o + k * 7, none⟩ = some (.int .i64 l[k].1) ∧ w.cell? ⟨g, o + k * 7 + 1, none⟩ = some (.string l[k].2.k) ∧ w.cell? ⟨g, o + k * 7 + 1 + 1, none⟩ = some (.string l[k].2.i) ∧ w.cell? ⟨g, o + k * 7 + 1 + 2, none⟩ = some (.string l[k].2.r) ∧
    w.cell? ⟨g, o + k * 7 + 1 + 3, none⟩ = some (.string l[k].2.u.k) ∧ w.cell? ⟨g, o + k * 7 + 1 + 4, none⟩ = some (.string l[k].2.u.i) ∧ w.cell? ⟨g, o + k * 7 + 1 + 5, none⟩ = some (.string l[k].2.u.r) := by
  obtain ⟨g, o, hA, hg, hc⟩ := h k hk
  exact ⟨g, o, hA, hg, hc 0 _ rfl, hc 1 _ rfl, hc 2 _ rfl, hc 3 _ rfl, hc 4 _ rfl, hc 5 _ rfl, hc 6 _ rfl⟩
theorem idx_act {A : Option Addr} {g o n c i : Nat} (hA : A = some ⟨g, o, none⟩) (hi : i < n) (w : World) : (Instr.indexAt 23 (.slice A n c) (.int .i64 (i : Int))).run Tryz.prog w = .ok (.pointer (some ⟨g, o + i * 7, none⟩)) w := by
  subst hA
  have h2 : (i : Int) < n := by omega
  go_simp
theorem fewB_one (t : Tp) : fewB [t] = short t := by simp [fewB]
theorem put_len1 (m : List Tp) (t : Tp) : (putT m t).length ≤ m.length + 1 := by
  unfold putT
  split
  · have := put_len (lt := ltT) m t
    split at this <;> omega
  · omega
theorem drop_len1 (m : List Tp) (t : Tp) : (drop m t).length ≤ m.length := List.length_filter_le _ _
set_option maxRecDepth 100000 in
set_option maxHeartbeats 25600000 in
theorem play_any (A : Option Addr) (c : Nat) (l : List Tp) (A1_ : Option Addr) (c1_ : Nat) (acs : List (Int × Tp)) (W : World) (hr : TRow W A l) (hT : ∀ t ∈ l, TpF t) (hz : l.length * 96 ≤ reachBytes) (hra : FactsPlumb.ARow W A1_ acs) (hTa : ∀ x ∈ acs, TpF x.2) (hcap : acs.length ≤ 9223372036854775807) :
    Calls Tryz.prog 3 #[.slice A l.length c, .slice A1_ acs.length c1_] W (Law W) := by
  have HR := Lib.hid hr
  have HTF := Lib.hid hT
  have HZ := Lib.hid hz
  obtain ⟨n, hn⟩ : ∃ v, v = l.length := ⟨_, rfl⟩
  rw [← hn] at hz ⊢
  have HZ := Lib.hid (show n * 96 ≤ 140737488355328 by unfold reachBytes at hz; omega)
  have HNL := Lib.hid hn
  obtain ⟨m, hm⟩ : ∃ v, new l = v := ⟨_, rfl⟩
  have HM := Lib.hid hm
  have HMU := Lib.hid (show Up ltT m by rw [← hm]; exact new_up l)
  have HML := Lib.hid (show m.length * 96 ≤ 140737488355328 by have := new_len l; rw [hm] at this; unfold reachBytes at hz; omega)
  clear hr hT hz hn hm
  have HRA := Lib.hid hra
  have HTA := Lib.hid hTa
  obtain ⟨na, hna⟩ : ∃ v, v = acs.length := ⟨_, rfl⟩
  rw [← hna] at hcap ⊢
  have HNA := Lib.hid hna
  clear hra hTa hna
  have HBW := Lib.hid (Below.refl W.heap.size W)
  go_enter Tryz.func3, Tryz.ntmps3
  go_upto_region 1 with fail
  obtain ⟨A1, c1, w3, hrun, hr1, hb1⟩ := run_copy (c := c) HNL.out (HR.out.below HBW.out) HZ.out 22
  have HNEW := Lib.hid (is_new (n := n) (c := c1) l HNL.out (by have := HZ.out; omega) hr1 HTF.out)
  have HBM := Lib.hid (HBW.out.trans (hb1.mono HBW.out.size))
  have HSM := Lib.hid hb1
  clear hr1 hb1
  go_wp2_with (at_builtin; first | refine wpList_append_run rfl (.tmp 12) (.tmp 13) 22 22 rfl rfl rfl hrun ?_)
  clear hrun
  (with_reducible refine HNEW.out.mono ?_)
  rintro e w4 hq
  unfold MadePost at hq
  obtain ⟨fb, rfl, his, hbn⟩ := hq
  rw [HM.out] at his
  have HIS := Lib.hid his
  have HBw4 := Lib.hid (HBM.out.trans (hbn.mono HBM.out.size))
  have HSw4 := Lib.hid (HSM.out.trans (hbn.mono HSM.out.size))
  have HLO := Lib.hid (show w3.heap.size ≤ w4.heap.size ∧ W.heap.size ≤ w3.heap.size from ⟨hbn.size, HBM.out.size⟩)
  obtain ⟨lo, hlo⟩ : ∃ v, v = w3.heap.size := ⟨_, rfl⟩
  rw [← hlo] at HIS HLO
  clear his hbn HNEW HBM HSM hlo
  go_wp2_with fail
  (with_reducible refine (awake_any _).mono ?_)
  rintro e w5 ⟨rfl, hb⟩
  have HBw5 := Lib.hid (HBw4.out.trans (hb.mono HBw4.out.size))
  have HIS5 := Lib.hid (HIS.out.below hb)
  clear hb HIS
  have hfew := few_any w5 A n c l HNL.out (rowT (HR.out.below HBw5.out)) (by have := HZ.out; omega)
  go_wp2_with fail
  (with_reducible refine hfew.mono ?_)
  clear hfew
  rintro e w6 ⟨rfl, hb⟩
  have HBw6 := Lib.hid (HBw5.out.trans (hb.mono HBw5.out.size))
  cases hf : fewB l with
  | false =>
    clear hb hf
    go_wp2_with fail
    (with_reducible refine (awake_any _).mono ?_)
    rintro e wz ⟨rfl, hbz⟩
    have HBZ := Lib.hid (HBw6.out.trans (hbz.mono HBw6.out.size))
    clear hbz
    go_wp2_with fail
    go_ret
    exact ⟨rfl, HBZ.out⟩
  | true =>
    have HIS6 := Lib.hid (HIS5.out.below hb)
    have HL80 := Lib.hid (show n ≤ 80 by have := few_len hf; have := HNL.out; omega)
    clear hb hf HIS5
    have hnew := rnew_any w6 A n c l HNL.out (HR.out.below HBw6.out) (by have := HL80.out; omega) HTF.out
    rw [HM.out] at hnew
    unfold RNewPost at hnew
    go_wp2_with fail
    (with_reducible refine hnew.mono ?_)
    clear hnew
    rintro e w7 ⟨Am, cm, nm, hnm, rfl, hrm, hbm⟩
    have HIS7 := Lib.hid (HIS6.out.below hbm)
    have HBw7 := Lib.hid (HBw6.out.trans (hbm.mono HBw6.out.size))
    have HNM := Lib.hid hnm
    have HRM := Lib.hid hrm
    have HML80 := Lib.hid (show m.length ≤ 80 by have := new_len l; rw [HM.out] at this; have := HL80.out; have := HNL.out; omega)
    clear hnm hrm hbm
    go_wp2_with fail
    go_loopw [6, 7] (fun vm vi wr => ∃ (k : Nat) (mm : List Tp) (Ao : Option Addr) (co no : Nat), k ≤ na ∧ k ≤ 60 ∧ vi = .int .i64 k ∧ no = mm.length ∧ vm = .slice Ao no co ∧ TRow wr Ao mm ∧ Is lo wr fb mm ∧ mm.length ≤ 80 + k ∧ Wn lo w7 wr) (fun _ vi _ => na - (intOf vi).toNat)
    case atStart => exact ⟨0, m, _, _, _, by omega, by omega, rfl, HNM.out, rfl, HRM.out, HIS7.out, by have := HML80.out; omega, Wn.refl _ _⟩
    case round =>
      obtain ⟨k, mm, Ao, co, no, hk, hk60, rfl, hno, rfl, hro, his, hml, hwn⟩ := hrel
      have HNO := Lib.hid hno
      have HRO := Lib.hid hro
      have HISR := Lib.hid his
      have HMR := Lib.hid hml
      have HWN := Lib.hid hwn
      have HBR := Lib.hid (show Below W.heap.size W wr from HBw7.out.trans ((hwn.below HIS7.out.low).mono HLO.out.2))
      clear hno hro his hml hwn
      by_cases hlt : k < na
      · by_cases hl6 : k < 60
        · have h1 : k < acs.length := by rw [← HNA.out]; exact hlt
          obtain ⟨ga, oa, hA, hga, z0, z1, z2, z3, z4, z5, z6⟩ := act_cells (HRA.out.below HBR.out) h1
          have hx1 := idx_act (n := na) (c := c1_) hA hlt
          have HTT := Lib.hid (HTA.out _ (List.getElem_mem h1))
          obtain ⟨t, ht⟩ : ∃ v, v = acs[k].2 := ⟨_, rfl⟩
          obtain ⟨kd, hkd⟩ : ∃ v, v = acs[k].1 := ⟨_, rfl⟩
          rw [← ht] at z1 z2 z3 z4 z5 z6 HTT
          rw [← hkd] at z0
          obtain ⟨oq, hoq⟩ : ∃ v, v = oa + k * 7 := ⟨_, rfl⟩
          rw [← hoq] at z0 z1 z2 z3 z4 z5 z6
          simp only [← hoq] at hx1
          obtain ⟨w8, hw8⟩ : ∃ v, v = wr.alloc (.cells (tc t) 32) := ⟨_, rfl⟩
          obtain ⟨b8, hb8⟩ : ∃ v, v = wr.heap.size := ⟨_, rfl⟩
          have bl8 : Below wr.heap.size wr w8 := by rw [hw8]; exact al _ _
          have a8 : w8.heap[b8]? = some (.cells (tc t) 32 (0, 0)) := by rw [hw8, hb8]; exact heap_alloc_new wr _
          have hx8 : Bx w8 b8 t := six_at a8
          have HX := Lib.hid (fun (w' : World) (hw' : Wn lo w8 w') => hx8.wn hw')
          have HKD := Lib.hid (fun (w' : World) (hw' : Wn lo w8 w') => (cell_wn hw' (cell_b z0 bl8) : w'.cell? ⟨ga, oq, none⟩ = some (.int .i64 kd)))
          have HIS8 := Lib.hid (HISR.out.below bl8)
          have HRO8 := Lib.hid (HRO.out.below bl8)
          have HW78 := Lib.hid (show Wn lo w7 w8 from HWN.out.trans (Wn.ofBelow bl8))
          have hfew1 := few_any (w8.alloc (.cells #[.string t.k, .string t.i, .string t.r, .string t.u.k, .string t.u.i, .string t.u.r] 32)) (some ⟨w8.heap.size, 0, none⟩) 1 1 [t] rfl (row_one (heap_alloc_new w8 _)) (by decide)
          rw [fewB_one] at hfew1
          have HLT := Lib.hid (And.intro hlt hl6)
          unfold tc at hw8
          have HW8 := Lib.hid hw8
          have HB8 := Lib.hid hb8
          obtain ⟨h0, h1, h2, h3, h4, h5⟩ := hx8
          clear ht hkd hA hga hoq hw8 hb8 bl8 a8
          go_upto_region 9 with fail
          rw [← HW8.out, ← HB8.out]
          clear z0 z1 z2 z3 z4 z5 z6
          go_wp2_with fail
          clear h0 h1 h2 h3 h4 h5
          (with_reducible refine hfew1.mono ?_)
          clear hfew1
          rintro e w9 ⟨rfl, hb9⟩
          have hw89 : Below w8.heap.size w8 w9 := Below.step (al _ _) hb9
          have HW89 := Lib.hid hw89
          clear hb9 hw89
          cases hsh : short t with
          | false =>
            clear hsh
            go_wp2_with fail
            go_roundw
            case rel => exact ⟨k + 1, mm, Ao, co, no, by have := HLT.out; omega, by have := HLT.out; omega, by go_num, HNO.out, rfl, HRO8.out.below HW89.out, HIS8.out.below HW89.out, by have := HMR.out; omega, HW78.out.trans (Wn.ofBelow HW89.out)⟩
            case measure => have := HLT.out; simp [intOf]; omega
          | true =>
            have HSH := Lib.hid hsh
            clear hsh
            have hoks := HISR.out.oks
            have HTM := Lib.hid (fun (s : Tp) (hs : s ∈ mm) => ok_fine (hoks s hs))
            clear hoks
            obtain ⟨h0, h1, h2, h3, h4, h5⟩ := HX.out w9 (Wn.ofBelow HW89.out)
            have hcall := rhas_any w9 Ao no co mm t HNO.out (rowT (HRO8.out.below HW89.out)) (by have := HMR.out; omega)
            dsimp only [tc] at hcall
            obtain ⟨hs, hhs⟩ : ∃ v, v = decide (t ∈ mm) := ⟨_, rfl⟩
            rw [← hhs] at hcall
            have HHS := Lib.hid hhs
            clear hhs
            go_wp2_with fail
            clear h0 h1 h2 h3 h4 h5
            (with_reducible refine hcall.mono ?_)
            clear hcall
            rintro e w10 ⟨rfl, hb10⟩
            have HW810 := Lib.hid (Below.step HW89.out hb10)
            clear hb10
            obtain ⟨h0, h1, h2, h3, h4, h5⟩ := HX.out w10 (Wn.ofBelow HW810.out)
            have hcall := (HIS8.out.below HW810.out).has t HTT.out
            dsimp only [tc] at hcall
            rw [← HHS.out] at hcall
            go_wp2_with fail
            clear h0 h1 h2 h3 h4 h5
            (with_reducible refine hcall.mono ?_)
            clear hcall
            rintro e w11 ⟨rfl, hb11⟩
            have HW811 := Lib.hid (Below.step HW810.out hb11)
            clear hb11
            have hkc := HKD.out w11 (Wn.ofBelow HW811.out)
            have hself : (hs != hs) = false := by cases hs <;> rfl
            by_cases hk0 : kd = 0
            · have ek : (kd == 0) = true := by simpa using hk0
              obtain ⟨h0, h1, h2, h3, h4, h5⟩ := HX.out w11 (Wn.ofBelow HW811.out)
              have hcall := rput_any w11 Ao no co mm t HNO.out (HRO8.out.below HW811.out) (by have := HMR.out; have := HNO.out; omega) HTM.out HTT.out
              unfold RPutPost at hcall
              dsimp only [tc] at hcall
              obtain ⟨pt, hpt⟩ : ∃ v, v = (t.ok && decide (t ∉ mm)) := ⟨_, rfl⟩
              rw [← hpt] at hcall
              have HPT := Lib.hid hpt
              have hself2 : (pt != pt) = false := by cases pt <;> rfl
              clear hpt hk0
              go_wp2_with fail
              clear h0 h1 h2 h3 h4 h5 ek hkc hself
              (with_reducible refine hcall.mono ?_)
              clear hcall
              rintro e w12 ⟨A2, c2, n2, hn2, rfl, hr2, hb12⟩
              have HW812 := Lib.hid (Below.step HW811.out hb12)
              have HN2 := Lib.hid hn2
              have HR2 := Lib.hid hr2
              clear hn2 hr2 hb12
              obtain ⟨h0, h1, h2, h3, h4, h5⟩ := HX.out w12 (Wn.ofBelow HW812.out)
              have hcall := (HIS8.out.below HW812.out).put t HTT.out
              dsimp only [tc] at hcall
              rw [← HPT.out] at hcall
              go_wp2_with fail
              clear h0 h1 h2 h3 h4 h5
              (with_reducible refine hcall.mono ?_)
              clear hcall
              rintro e w13 ⟨rfl, hi13, hw13⟩
              have HI13 := Lib.hid hi13
              have HW13 := Lib.hid hw13
              clear hi13 hw13
              go_wp2_with fail
              go_roundw
              case rel => exact ⟨k + 1, putT mm t, A2, c2, n2, by have := HLT.out; omega, by have := HLT.out; omega, by go_num, HN2.out, rfl, HR2.out.wn HW13.out, HI13.out, by have := put_len1 mm t; have := HMR.out; omega, HW78.out.trans ((Wn.ofBelow HW812.out).trans HW13.out)⟩
              case measure => have := HLT.out; simp [intOf]; omega
            · have ek : (kd == 0) = false := by simpa using hk0
              obtain ⟨h0, h1, h2, h3, h4, h5⟩ := HX.out w11 (Wn.ofBelow HW811.out)
              have hcall := rdrop_any w11 Ao no co mm t HNO.out (HRO8.out.below HW811.out) (by have := HMR.out; have := HNO.out; omega)
              unfold RNewPost at hcall
              dsimp only [tc] at hcall
              clear hk0
              go_wp2_with fail
              clear h0 h1 h2 h3 h4 h5 ek hkc
              (with_reducible refine hcall.mono ?_)
              clear hcall
              rintro e w12 ⟨A2, c2, n2, hn2, rfl, hr2, hb12⟩
              have HW812 := Lib.hid (Below.step HW811.out hb12)
              have HN2 := Lib.hid hn2
              have HR2 := Lib.hid hr2
              clear hn2 hr2 hb12
              obtain ⟨h0, h1, h2, h3, h4, h5⟩ := HX.out w12 (Wn.ofBelow HW812.out)
              have hcall := (HIS8.out.below HW812.out).drop t HTT.out
              dsimp only [tc] at hcall
              rw [← HHS.out] at hcall
              go_wp2_with fail
              clear h0 h1 h2 h3 h4 h5
              (with_reducible refine hcall.mono ?_)
              clear hcall
              rintro e w13 ⟨rfl, hi13, hw13⟩
              have HI13 := Lib.hid hi13
              have HW13 := Lib.hid hw13
              clear hi13 hw13
              go_wp2_with fail
              go_roundw
              case rel => exact ⟨k + 1, drop mm t, A2, c2, n2, by have := HLT.out; omega, by have := HLT.out; omega, by go_num, HN2.out, rfl, HR2.out.wn HW13.out, HI13.out, by have := drop_len1 mm t; have := HMR.out; omega, HW78.out.trans ((Wn.ofBelow HW812.out).trans HW13.out)⟩
              case measure => have := HLT.out; simp [intOf]; omega
        · have e60 : ¬ (k : Int) < 60 := by omega
          have hcall := HISR.out.all (by have := HMR.out; omega)
          unfold AllPost at hcall
          go_wp2_with fail
          (with_reducible refine hcall.mono ?_)
          clear hcall
          rintro e w14 ⟨A4, c4, n4, hn4, rfl, _, _, hr4, hb14⟩
          have hcall := rsame_t w14 A4 Ao n4 c4 no co mm mm true hn4 HNO.out (rowT hr4) (rowT (HRO.out.below hb14)) (by have := HMR.out; omega) (by simp)
          have HB14 := Lib.hid (HBR.out.trans (hb14.mono HBR.out.size))
          clear hn4 hr4 hb14
          go_wp2_with fail
          (with_reducible refine hcall.mono ?_)
          clear hcall
          rintro e w15 ⟨rfl, hb15⟩
          have HB15 := Lib.hid (HB14.out.trans (hb15.mono HB14.out.size))
          clear hb15
          go_wp2_with fail
          go_ret
          exact ⟨rfl, HB15.out⟩
      · skip
        have hcall := HISR.out.all (by have := HMR.out; omega)
        unfold AllPost at hcall
        go_wp2_with fail
        (with_reducible refine hcall.mono ?_)
        clear hcall
        rintro e w14 ⟨A4, c4, n4, hn4, rfl, _, _, hr4, hb14⟩
        have hcall := rsame_t w14 A4 Ao n4 c4 no co mm mm true hn4 HNO.out (rowT hr4) (rowT (HRO.out.below hb14)) (by have := HMR.out; omega) (by simp)
        have HB14 := Lib.hid (HBR.out.trans (hb14.mono HBR.out.size))
        clear hn4 hr4 hb14
        go_wp2_with fail
        (with_reducible refine hcall.mono ?_)
        clear hcall
        rintro e w15 ⟨rfl, hb15⟩
        have HB15 := Lib.hid (HB14.out.trans (hb15.mono HB14.out.size))
        clear hb15
        go_wp2_with fail
        go_ret
        exact ⟨rfl, HB15.out⟩
end Go.Proofs.YtilcnhdfdgmekaaGreat.FactsPlay
