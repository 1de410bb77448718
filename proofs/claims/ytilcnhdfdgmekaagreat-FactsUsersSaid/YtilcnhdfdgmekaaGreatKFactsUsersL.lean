/- The walk of FactsUsers. -/
import Derived.Test.YtilcnhdfdgmekaaGreatKFactsLawP
import Derived.Test.YtilcnhdfdgmekaaGreatKHeld
namespace Go.Proofs.YtilcnhdfdgmekaaGreat.FactsUsersL
open Go.RowKit Base KeyPlain TuplePlain TupleRef TupleSpec TupleCut FMap FactsPlain FactsMem FactsHas FactsPut FactsDrop FactsNew FactsFind FactsLess FactsObj FactsUsersOf FactsNames FactsOrder FactsRefS FactsFew FactsIs FactsAwake TurnB RowN FactsLawP

theorem told_eq {x s : ByteArray} (h : x.size ≠ 0) (ht : told x s = true) : s = x := by
  unfold told at ht
  simp [h] at ht
  exact ht.symm
/-- what a filter of a relation to an object means is of it -/
theorem found_is {m : List Tp} {k i r : ByteArray} {most : Int} (hk : k.size ≠ 0) (hi : i.size ≠ 0) (hr : r.size ≠ 0) {t : Tp} (ht : t ∈ find m ⟨k, i, r, zus⟩ most) : t = ⟨k, i, r, t.u⟩ ∧ t ∈ m := by
  unfold find at ht
  obtain ⟨h1, h2⟩ := List.mem_filter.1 (List.mem_of_mem_take ht)
  unfold means at h2
  simp only [Bool.and_eq_true] at h2
  obtain ⟨⟨⟨⟨⟨a, b⟩, c⟩, _⟩, _⟩, _⟩ := h2
  obtain ⟨tk, ti, tr, tu⟩ := t
  have ea : tk = k := told_eq hk a
  have eb : ti = i := told_eq hi b
  have ec : tr = r := told_eq hr c
  subst ea eb ec
  exact ⟨rfl, h1⟩
/-- the users of a relation, and the tuples that its filter means, side by side -/
theorem side_by {m : List Tp} {k i r : ByteArray} (hk : k.size ≠ 0) (hi : i.size ≠ 0) (hr : r.size ≠ 0) (hm : (m.length : Int) ≤ 1000) :
    (users m k i r).length = (find m ⟨k, i, r, zus⟩ 1000).length ∧ ∀ (j : Nat) (h1 : j < (users m k i r).length) (h2 : j < (find m ⟨k, i, r, zus⟩ 1000).length), (find m ⟨k, i, r, zus⟩ 1000)[j] = ⟨k, i, r, (users m k i r)[j]⟩ ∧ (find m ⟨k, i, r, zus⟩ 1000)[j] ∈ m := by
  have e := users_find m hk hi hr 1000 hm
  refine ⟨by rw [e, List.length_map], fun j h1 h2 => ?_⟩
  have h := found_is hk hi hr (List.getElem_mem h2)
  refine ⟨?_, h.2⟩
  have h3 : (users m k i r)[j] = ((find m ⟨k, i, r, zus⟩ 1000)[j]).u := by
    simp only [e, List.getElem_map]
  rw [h3]
  exact h.1
/-- what the round of the law reads -/
def UsS (gu ou gt ot : Nat) (o u : Us) (w : World) : Prop :=
  w.cell? ⟨gu, ou, none⟩ = some (.string u.k) ∧ w.cell? ⟨gu, ou + 1, none⟩ = some (.string u.i) ∧ w.cell? ⟨gu, ou + 2, none⟩ = some (.string u.r) ∧ w.cell? ⟨gt, ot, none⟩ = some (.string o.k) ∧ w.cell? ⟨gt, ot + 1, none⟩ = some (.string o.i) ∧ w.cell? ⟨gt, ot + 2, none⟩ = some (.string o.r) ∧ w.cell? ⟨gt, ot + 3, none⟩ = some (.string u.k) ∧ w.cell? ⟨gt, ot + 4, none⟩ = some (.string u.i) ∧ w.cell? ⟨gt, ot + 5, none⟩ = some (.string u.r)
theorem cell_b {w w' : World} {p : Addr} {v : Value} (h : w.cell? p = some v) (hb : Below w.heap.size w w') : w'.cell? p = some v := cell_wn (lo := 0) (Wn.ofBelow hb) h
theorem UsS.below {gu ou gt ot : Nat} {o u : Us} {w w' : World} (h : UsS gu ou gt ot o u w) (hb : Below w.heap.size w w') : UsS gu ou gt ot o u w' :=
  ⟨cell_b h.1 hb, cell_b h.2.1 hb, cell_b h.2.2.1 hb, cell_b h.2.2.2.1 hb, cell_b h.2.2.2.2.1 hb, cell_b h.2.2.2.2.2.1 hb, cell_b h.2.2.2.2.2.2.1 hb, cell_b h.2.2.2.2.2.2.2.1 hb, cell_b h.2.2.2.2.2.2.2.2 hb⟩
set_option maxRecDepth 100000 in
set_option maxHeartbeats 25600000 in
theorem users_any (A : Option Addr) (c : Nat) (l : List Tp) (o : Us) (W : World) (hr : TRow W A l) (hT : ∀ t ∈ l, TpF t) (hz : l.length * 96 ≤ reachBytes) (ho : UsF o) :
    Calls Tryz.prog 6 #[.slice A l.length c, .string o.k, .string o.i, .string o.r] W (Law W) := by
  have HR := Lib.hid hr
  have HTF := Lib.hid hT
  have HZ := Lib.hid hz
  obtain ⟨n, hn⟩ : ∃ v, v = l.length := ⟨_, rfl⟩
  rw [← hn] at hz ⊢
  have HZ := Lib.hid (show n * 96 ≤ 140737488355328 by unfold reachBytes at hz; omega)
  have HNL := Lib.hid hn
  obtain ⟨m, hm⟩ : ∃ v, new l = v := ⟨_, rfl⟩
  have HM := Lib.hid hm
  have HMU := Lib.hid (show Up ltT m by rw [← hm]; exact new_up l)
  have HML := Lib.hid (show m.length * 96 ≤ 140737488355328 by have := new_len l; rw [hm] at this; unfold reachBytes at hz; omega)
  clear hr hT hz hn hm
  have HBW := Lib.hid (Below.refl W.heap.size W)
  have HUF := Lib.hid ho
  clear ho
  go_enter Tryz.func6, Tryz.ntmps6
  go_upto_region 1 with fail
  obtain ⟨A1, c1, w3, hrun, hr1, hb1⟩ := run_copy (c := c) HNL.out (HR.out.below HBW.out) HZ.out 22
  have HNEW := Lib.hid (is_new (n := n) (c := c1) l HNL.out (by have := HZ.out; omega) hr1 HTF.out)
  have HBM := Lib.hid (HBW.out.trans (hb1.mono HBW.out.size))
  have HSM := Lib.hid hb1
  clear hr1 hb1
  go_wp2_with (at_builtin; first | refine wpList_append_run rfl (.tmp 13) (.tmp 14) 22 22 rfl rfl rfl hrun ?_)
  clear hrun
  (with_reducible refine HNEW.out.mono ?_)
  rintro e w4 hq
  unfold MadePost at hq
  obtain ⟨fb, rfl, his, hbn⟩ := hq
  rw [HM.out] at his
  have HIS := Lib.hid his
  have HBw4 := Lib.hid (HBM.out.trans (hbn.mono HBM.out.size))
  have HSw4 := Lib.hid (HSM.out.trans (hbn.mono HSM.out.size))
  have HLO := Lib.hid (show w3.heap.size ≤ w4.heap.size ∧ W.heap.size ≤ w3.heap.size from ⟨hbn.size, HBM.out.size⟩)
  obtain ⟨lo, hlo⟩ : ∃ v, v = w3.heap.size := ⟨_, rfl⟩
  rw [← hlo] at HIS HLO
  clear his hbn HNEW HBM HSM hlo
  go_wp2_with fail
  (with_reducible refine (awake_any _).mono ?_)
  rintro e w5 ⟨rfl, hb⟩
  have HBw5 := Lib.hid (HBw4.out.trans (hb.mono HBw4.out.size))
  have HIS5 := Lib.hid (HIS.out.below hb)
  clear hb HIS
  have hfew := few_any w5 A n c l HNL.out (rowT (HR.out.below HBw5.out)) (by have := HZ.out; omega)
  go_wp2_with fail
  (with_reducible refine hfew.mono ?_)
  clear hfew
  rintro e w6 ⟨rfl, hb⟩
  have HBw6 := Lib.hid (HBw5.out.trans (hb.mono HBw5.out.size))
  cases hf : fewB l with
  | false =>
    clear hb hf
    go_wp2_with fail
    (with_reducible refine (awake_any _).mono ?_)
    rintro e wz ⟨rfl, hbz⟩
    have HBZ := Lib.hid (HBw6.out.trans (hbz.mono HBw6.out.size))
    clear hbz
    go_wp2_with fail
    go_ret
    exact ⟨rfl, HBZ.out⟩
  | true =>
    have HIS6 := Lib.hid (HIS5.out.below hb)
    have HFT := Lib.hid (few_len hf)
    clear hb hf HIS5
    by_cases hk : o.k.size = 0
    · skip
      have ek : o.k.toList.isEmpty = true := by rw [TupleRef.empty_eq]; simp [hk]
      clear hk
      go_wp2_with fail
      (with_reducible refine (awake_any _).mono ?_)
      rintro e wz ⟨rfl, hbz⟩
      have HBZ := Lib.hid (HBw6.out.trans (hbz.mono HBw6.out.size))
      clear hbz
      go_wp2_with fail
      go_ret
      exact ⟨rfl, HBZ.out⟩
    have ek : o.k.toList.isEmpty = false := by rw [TupleRef.empty_eq]; simp [hk]
    by_cases hi : o.i.size = 0
    · skip
      have ei : o.i.toList.isEmpty = true := by rw [TupleRef.empty_eq]; simp [hi]
      clear hi
      go_wp2_with fail
      (with_reducible refine (awake_any _).mono ?_)
      rintro e wz ⟨rfl, hbz⟩
      have HBZ := Lib.hid (HBw6.out.trans (hbz.mono HBw6.out.size))
      clear hbz
      go_wp2_with fail
      go_ret
      exact ⟨rfl, HBZ.out⟩
    have ei : o.i.toList.isEmpty = false := by rw [TupleRef.empty_eq]; simp [hi]
    by_cases hr : o.r.size = 0
    · skip
      have er : o.r.toList.isEmpty = true := by rw [TupleRef.empty_eq]; simp [hr]
      clear hr
      go_wp2_with fail
      (with_reducible refine (awake_any _).mono ?_)
      rintro e wz ⟨rfl, hbz⟩
      have HBZ := Lib.hid (HBw6.out.trans (hbz.mono HBw6.out.size))
      clear hbz
      go_wp2_with fail
      go_ret
      exact ⟨rfl, HBZ.out⟩
    have er : o.r.toList.isEmpty = false := by rw [TupleRef.empty_eq]; simp [hr]
    have hsd := side_by (m := m) hk hi hr (by have := HFT.out; have := new_len l; rw [HM.out] at this; have := HNL.out; omega)
    have HUS := Lib.hid (HIS6.out.users HML.out o HUF.out)
    have HFD := Lib.hid (fun (w : World) (hb : Below w6.heap.size w6 w) => (HIS6.out.below hb).find HML.out ⟨o.k, o.i, o.r, zus⟩ 1000)
    have HHAS := Lib.hid (fun (w : World) (hb : Below w6.heap.size w6 w) (t : Tp) (ht : TpF t) => (HIS6.out.below hb).has t ht)
    have HOK := Lib.hid (fun (t : Tp) (ht : t ∈ m) => ok_fine (HIS6.out.oks t ht))
    have hul : (users m o.k o.i o.r).length ≤ 80 := by
      have h1 : (users m o.k o.i o.r).length ≤ m.length := by unfold users; rw [List.length_map]; exact List.length_filter_le _ _
      have h2 := new_len l
      rw [HM.out] at h2
      have := HFT.out
      omega
    unfold FindPost at HFD
    generalize users m o.k o.i o.r = us at hsd HUS hul
    generalize find m ⟨o.k, o.i, o.r, zus⟩ 1000 = ts at hsd HFD
    have HUL := Lib.hid hul
    clear hul
    have HLE := Lib.hid hsd.1
    have HSD := Lib.hid hsd.2
    clear hsd hk hi hr
    go_wp2_with fail
    (with_reducible refine HUS.out.mono ?_)
    rintro e w7 ⟨Au, cu, nu, hnu, rfl, hru, hb7⟩
    have HRU := Lib.hid (rowU hru)
    have HNU := Lib.hid hnu
    have hfd := HFD.out _ hb7
    have HB7 := Lib.hid hb7
    dsimp only [tc, zus] at hfd
    clear hru hnu hb7 ek ei er HFD
    go_wp2_with fail
    (with_reducible refine hfd.mono ?_)
    clear hfd
    rintro e w8 ⟨At, ct, nt, hnt, rfl, hrt, hb8⟩
    obtain rfl : nu = nt := by have := HNU.out; have := HLE.out; omega
    have HRT := Lib.hid (rowT hrt)
    have HRU8 := Lib.hid (HRU.out.below hb8)
    have HB8 := Lib.hid (Below.step HB7.out hb8)
    have HNT := Lib.hid hnt
    have hne0 : ((nu : Int) != (nu : Int)) = false := by simp
    have hnb : nu ≤ 80 := by have := HNU.out; have := HUL.out; omega
    clear hrt hb8 hnt HRU HB7
    go_wp2_with fail
    clear hne0
    go_loopw [12] (fun i wr => ∃ k : Nat, k ≤ nu ∧ i = .int .i64 k ∧ Below w8.heap.size w8 wr) (fun i _ => nu - (intOf i).toNat)
    case atStart => exact ⟨0, by omega, rfl, Below.refl _ _⟩
    case round =>
      obtain ⟨k, hk, rfl, hbw⟩ := hrel
      have HBW8 := Lib.hid hbw
      by_cases hlt : k < nu
      · have h1 : k < us.length := by rw [← HNU.out]; exact hlt
        have h2 : k < ts.length := by rw [← HNT.out]; exact hlt
        obtain ⟨gu, ou, hA, hgu, d0, d1, d2⟩ := (HRU8.out.below hbw) k h1
        obtain ⟨gt, ot, hB, hgt, e0, e1, e2, e3, e4, e5⟩ := (HRT.out.below hbw) k h2
        have hx1 := FactsObj.idx_us (n := nu) (c := cu) hA hlt
        have hx2 := idx_tp (n := nu) (c := ct) hB hlt
        obtain ⟨q1, q2⟩ := HSD.out k h1 h2
        have hhas := fun (w : World) (hb : Below w8.heap.size w8 w) => HHAS.out w (Below.step HB8.out hb) ts[k] (HOK.out _ q2)
        simp only [decide_eq_true q2] at hhas
        have hne := TupleEq.us_ne us[k] us[k]
        simp only [decide_true, Bool.not_true] at hne
        rw [q1] at e0 e1 e2 e3 e4 e5 hhas
        generalize us[k] = u at *
        clear q1 q2 h1 h2 hA hB hgu hgt
        dsimp only [tc] at hhas e0 e1 e2 e3 e4 e5
        unfold uc at hne
        have HLT := Lib.hid hlt
        have HHS := Lib.hid hhas
        clear hhas
        go_wp2_with fail
        refine wp_region_any (by kernel_rfl) ?_
        change wpAny _ _ _ _ _ _ _ (World.drew _)
        obtain ⟨u0, hu0⟩ : ∃ v, v = World.drew wr := ⟨_, rfl⟩
        rw [← hu0]
        have hs0 : UsS gu (ou + k * 3) gt (ot + k * 6) o u u0 := by rw [hu0]; exact ⟨d0, d1, d2, e0, e1, e2, e3, e4, e5⟩
        have hbw0 : Below w8.heap.size w8 u0 := by rw [hu0]; exact HBW8.out.trans (Below.refl _ _).drew
        clear d0 d1 d2 e0 e1 e2 e3 e4 e5 hbw hu0
        refine Held.any_of_G (S := (fun w' : World => UsS gu (ou + k * 3) gt (ot + k * 6) o u w')) (z := 45) _ _ _ _ ?_
        refine Held.G_take (i := 0) (d := 63) (v := ?_) [0, 2, 3, 9, 10, 11, 12, 13, 14, 15, 16, 17, 18, 19, 20, 21, 22, 23, 24, 25, 26, 27, 28, 29, 30, 31, 32, 33, 34, 35, 36, 37, 38, 39, 40, 41, 42, 43, 44, 45] rfl rfl (by kernel_rfl) (by kernel_rfl) (by kernel_rfl) (by kernel_rfl) (fun _ _ _ h => h) (Or.inl ⟨by rfl, ?_⟩) hs0 ?_
        rotate_left 1
        · intro w hSw; clear hSw; go_simp <;> with_reducible rfl
        simp only [Act.put, List.setIfInBounds_toArray, List.set_cons_zero, List.set_cons_succ]
        refine Held.G_take (i := 1) (d := 64) (v := ?_) [1, 2, 3, 9, 10, 11, 12, 13, 14, 15, 16, 17, 18, 19, 20, 21, 22, 23, 24, 25, 26, 27, 28, 29, 30, 31, 32, 33, 34, 35, 36, 37, 38, 39, 40, 41, 42, 43, 44, 45] rfl rfl (by kernel_rfl) (by kernel_rfl) (by kernel_rfl) (by kernel_rfl) (fun _ _ _ h => h) (Or.inl ⟨by rfl, ?_⟩) hs0 ?_
        rotate_left 1
        · intro w hSw; clear hSw; go_simp <;> with_reducible rfl
        simp only [Act.put, List.setIfInBounds_toArray, List.set_cons_zero, List.set_cons_succ]
        refine Held.G_take (i := 2) (d := 65) (v := ?_) [2, 3, 9, 10, 11, 12, 13, 14, 15, 16, 17, 18, 19, 20, 21, 22, 23, 24, 25, 26, 27, 28, 29, 30, 31, 32, 33, 34, 35, 36, 37, 38, 39, 40, 41, 42, 43, 44, 45] rfl rfl (by kernel_rfl) (by kernel_rfl) (by kernel_rfl) (by kernel_rfl) (fun _ _ _ h => h) (Or.inl ⟨by rfl, ?_⟩) hs0 ?_
        rotate_left 1
        · intro w hSw; clear hSw; go_simp <;> with_reducible rfl
        simp only [Act.put, List.setIfInBounds_toArray, List.set_cons_zero, List.set_cons_succ]
        refine Held.G_take (i := 3) (d := 66) (v := ?_) [3, 9, 10, 11, 12, 13, 14, 15, 16, 17, 18, 19, 20, 21, 22, 23, 24, 25, 26, 27, 28, 29, 30, 31, 32, 33, 34, 35, 36, 37, 38, 39, 40, 41, 42, 43, 44, 45] rfl rfl (by kernel_rfl) (by kernel_rfl) (by kernel_rfl) (by kernel_rfl) (fun _ _ _ h => h) (Or.inl ⟨by rfl, ?_⟩) hs0 ?_
        rotate_left 1
        · intro w hSw; obtain ⟨d0, d1, d2, e0, e1, e2, e3, e4, e5⟩ := hSw; go_simp <;> with_reducible rfl
        simp only [Act.put, List.setIfInBounds_toArray, List.set_cons_zero, List.set_cons_succ]
        refine Held.G_take (i := 4) (d := 67) (v := ?_) [4, 6, 7, 8, 9, 10, 11, 12, 13, 14, 15, 16, 17, 18, 19, 20, 21, 22, 23, 24, 25, 26, 27, 28, 29, 30, 31, 32, 33, 34, 35, 36, 37, 38, 39, 40, 41, 42, 43, 44, 45] rfl rfl (by kernel_rfl) (by kernel_rfl) (by kernel_rfl) (by kernel_rfl) (fun _ _ _ h => h) (Or.inl ⟨by rfl, ?_⟩) hs0 ?_
        rotate_left 1
        · intro w hSw; clear hSw; go_simp <;> with_reducible rfl
        simp only [Act.put, List.setIfInBounds_toArray, List.set_cons_zero, List.set_cons_succ]
        refine Held.G_take (i := 5) (d := 68) (v := ?_) [5, 6, 7, 8, 9, 10, 11, 12, 13, 14, 15, 16, 17, 18, 19, 20, 21, 22, 23, 24, 25, 26, 27, 28, 29, 30, 31, 32, 33, 34, 35, 36, 37, 38, 39, 40, 41, 42, 43, 44, 45] rfl rfl (by kernel_rfl) (by kernel_rfl) (by kernel_rfl) (by kernel_rfl) (fun _ _ _ h => h) (Or.inl ⟨by rfl, ?_⟩) hs0 ?_
        rotate_left 1
        · intro w hSw; clear hSw; go_simp <;> with_reducible rfl
        simp only [Act.put, List.setIfInBounds_toArray, List.set_cons_zero, List.set_cons_succ]
        refine Held.G_take (i := 6) (d := 69) (v := ?_) [6, 7, 8, 9, 10, 11, 12, 13, 14, 15, 16, 17, 18, 19, 20, 21, 22, 23, 24, 25, 26, 27, 28, 29, 30, 31, 32, 33, 34, 35, 36, 37, 38, 39, 40, 41, 42, 43, 44, 45] rfl rfl (by kernel_rfl) (by kernel_rfl) (by kernel_rfl) (by kernel_rfl) (fun _ _ _ h => h) (Or.inl ⟨by rfl, ?_⟩) hs0 ?_
        rotate_left 1
        · intro w hSw; clear hSw; go_simp <;> with_reducible rfl
        simp only [Act.put, List.setIfInBounds_toArray, List.set_cons_zero, List.set_cons_succ]
        refine Held.G_take (i := 7) (d := 70) (v := ?_) [7, 8, 9, 10, 11, 12, 13, 14, 15, 16, 17, 18, 19, 20, 21, 22, 23, 24, 25, 26, 27, 28, 29, 30, 31, 32, 33, 34, 35, 36, 37, 38, 39, 40, 41, 42, 43, 44, 45] rfl rfl (by kernel_rfl) (by kernel_rfl) (by kernel_rfl) (by kernel_rfl) (fun _ _ _ h => h) (Or.inl ⟨by rfl, ?_⟩) hs0 ?_
        rotate_left 1
        · intro w hSw; clear hSw; go_simp <;> with_reducible rfl
        simp only [Act.put, List.setIfInBounds_toArray, List.set_cons_zero, List.set_cons_succ]
        refine Held.G_take (i := 8) (d := 71) (v := ?_) [8, 9, 10, 11, 12, 13, 14, 15, 16, 17, 18, 19, 20, 21, 22, 23, 24, 25, 26, 27, 28, 29, 30, 31, 32, 33, 34, 35, 36, 37, 38, 39, 40, 41, 42, 43, 44, 45] rfl rfl (by kernel_rfl) (by kernel_rfl) (by kernel_rfl) (by kernel_rfl) (fun _ _ _ h => h) (Or.inl ⟨by rfl, ?_⟩) hs0 ?_
        rotate_left 1
        · intro w hSw; obtain ⟨d0, d1, d2, e0, e1, e2, e3, e4, e5⟩ := hSw; go_simp <;> with_reducible rfl
        simp only [Act.put, List.setIfInBounds_toArray, List.set_cons_zero, List.set_cons_succ]
        refine Held.G_take (i := 9) (d := 72) (v := ?_) [9, 10, 11, 12, 13, 14, 15, 16, 17, 18, 19, 20, 21, 22, 23, 24, 25, 26, 27, 28, 29, 30, 31, 32, 33, 34, 35, 36, 37, 38, 39, 40, 41, 42, 43, 44, 45] rfl rfl (by kernel_rfl) (by kernel_rfl) (by kernel_rfl) (by kernel_rfl) (fun _ _ _ h => h) (Or.inl ⟨by rfl, ?_⟩) hs0 ?_
        rotate_left 1
        · intro w hSw; clear hSw; go_simp <;> with_reducible rfl
        simp only [Act.put, List.setIfInBounds_toArray, List.set_cons_zero, List.set_cons_succ]
        refine Held.G_take (i := 10) (d := 73) (v := ?_) [10, 11, 12, 13, 14, 15, 16, 17, 18, 19, 20, 21, 22, 23, 24, 25, 26, 27, 28, 29, 30, 31, 32, 33, 34, 35, 36, 37, 38, 39, 40, 41, 42, 43, 44, 45] rfl rfl (by kernel_rfl) (by kernel_rfl) (by kernel_rfl) (by kernel_rfl) (fun _ _ _ h => h) (Or.inl ⟨by rfl, ?_⟩) hs0 ?_
        rotate_left 1
        · intro w hSw; clear hSw; go_simp <;> with_reducible rfl
        simp only [Act.put, List.setIfInBounds_toArray, List.set_cons_zero, List.set_cons_succ]
        refine Held.G_take (i := 11) (d := 74) (v := ?_) [11, 13, 14, 15, 17, 18, 19, 20, 21, 22, 23, 24, 25, 26, 27, 28, 29, 30, 31, 32, 33, 34, 35, 36, 37, 38, 39, 40, 41, 42, 43, 44, 45] rfl rfl (by kernel_rfl) (by kernel_rfl) (by kernel_rfl) (by kernel_rfl) (fun _ _ _ h => h) (Or.inl ⟨by rfl, ?_⟩) hs0 ?_
        rotate_left 1
        · intro w hSw; clear hSw; go_simp <;> with_reducible rfl
        simp only [Act.put, List.setIfInBounds_toArray, List.set_cons_zero, List.set_cons_succ]
        refine Held.G_take (i := 12) (d := 75) (v := ?_) [12, 13, 14, 15, 17, 18, 19, 20, 21, 22, 23, 24, 25, 26, 27, 28, 29, 30, 31, 32, 33, 34, 35, 36, 37, 38, 39, 40, 41, 42, 43, 44, 45] rfl rfl (by kernel_rfl) (by kernel_rfl) (by kernel_rfl) (by kernel_rfl) (fun _ _ _ h => h) (Or.inl ⟨by rfl, ?_⟩) hs0 ?_
        rotate_left 1
        · intro w hSw; clear hSw; go_simp <;> with_reducible rfl
        simp only [Act.put, List.setIfInBounds_toArray, List.set_cons_zero, List.set_cons_succ]
        refine Held.G_take (i := 13) (d := 76) (v := ?_) [13, 14, 15, 17, 18, 19, 20, 21, 22, 23, 24, 25, 26, 27, 28, 29, 30, 31, 32, 33, 34, 35, 36, 37, 38, 39, 40, 41, 42, 43, 44, 45] rfl rfl (by kernel_rfl) (by kernel_rfl) (by kernel_rfl) (by kernel_rfl) (fun _ _ _ h => h) (Or.inl ⟨by rfl, ?_⟩) hs0 ?_
        rotate_left 1
        · intro w hSw; clear hSw; go_simp <;> with_reducible rfl
        simp only [Act.put, List.setIfInBounds_toArray, List.set_cons_zero, List.set_cons_succ]
        refine Held.G_take (i := 14) (d := 77) (v := ?_) [14, 15, 17, 18, 19, 20, 21, 22, 23, 24, 25, 26, 27, 28, 29, 30, 31, 32, 33, 34, 35, 36, 37, 38, 39, 40, 41, 42, 43, 44, 45] rfl rfl (by kernel_rfl) (by kernel_rfl) (by kernel_rfl) (by kernel_rfl) (fun _ _ _ h => h) (Or.inl ⟨by rfl, ?_⟩) hs0 ?_
        rotate_left 1
        · intro w hSw; clear hSw; go_simp <;> with_reducible rfl
        simp only [Act.put, List.setIfInBounds_toArray, List.set_cons_zero, List.set_cons_succ]
        refine Held.G_take (i := 15) (d := 78) (v := ?_) [15, 17, 18, 19, 20, 21, 22, 23, 24, 25, 26, 27, 28, 29, 30, 31, 32, 33, 34, 35, 36, 37, 38, 39, 40, 41, 42, 43, 44, 45] rfl rfl (by kernel_rfl) (by kernel_rfl) (by kernel_rfl) (by kernel_rfl) (fun _ _ _ h => h) (Or.inl ⟨by rfl, ?_⟩) hs0 ?_
        rotate_left 1
        · intro w hSw; obtain ⟨d0, d1, d2, e0, e1, e2, e3, e4, e5⟩ := hSw; go_simp <;> with_reducible rfl
        simp only [Act.put, List.setIfInBounds_toArray, List.set_cons_zero, List.set_cons_succ]
        refine Held.G_take (i := 16) (d := 79) (v := ?_) [16, 17, 18, 19, 20, 21, 22, 23, 24, 25, 26, 27, 28, 29, 30, 31, 32, 33, 34, 35, 36, 37, 38, 39, 40, 41, 42, 43, 44, 45] rfl rfl (by kernel_rfl) (by kernel_rfl) (by kernel_rfl) (by kernel_rfl) (fun _ _ _ h => h) (Or.inl ⟨by rfl, ?_⟩) hs0 ?_
        rotate_left 1
        · intro w hSw; clear hSw; go_simp <;> with_reducible rfl
        simp only [Act.put, List.setIfInBounds_toArray, List.set_cons_zero, List.set_cons_succ]
        refine Held.G_take (i := 17) (d := 80) (v := ?_) [17, 18, 19, 20, 21, 22, 23, 24, 25, 26, 27, 28, 29, 30, 31, 32, 33, 34, 35, 36, 37, 38, 39, 40, 41, 42, 43, 44, 45] rfl rfl (by kernel_rfl) (by kernel_rfl) (by kernel_rfl) (by kernel_rfl) (fun _ _ _ h => h) (Or.inl ⟨by rfl, ?_⟩) hs0 ?_
        rotate_left 1
        · intro w hSw; clear hSw; go_simp <;> with_reducible rfl
        simp only [Act.put, List.setIfInBounds_toArray, List.set_cons_zero, List.set_cons_succ]
        refine Held.G_take (i := 18) (d := 81) (v := ?_) [18, 19, 20, 21, 22, 23, 24, 25, 26, 27, 28, 29, 30, 31, 32, 33, 34, 35, 36, 37, 38, 39, 40, 41, 42, 43, 44, 45] rfl rfl (by kernel_rfl) (by kernel_rfl) (by kernel_rfl) (by kernel_rfl) (fun _ _ _ h => h) (Or.inl ⟨by rfl, ?_⟩) hs0 ?_
        rotate_left 1
        · intro w hSw; clear hSw; go_simp <;> with_reducible rfl
        simp only [Act.put, List.setIfInBounds_toArray, List.set_cons_zero, List.set_cons_succ]
        refine Held.G_take (i := 19) (d := 82) (v := ?_) [19, 20, 21, 22, 23, 24, 25, 26, 27, 28, 29, 30, 31, 32, 33, 34, 35, 36, 37, 38, 39, 40, 41, 42, 43, 44, 45] rfl rfl (by kernel_rfl) (by kernel_rfl) (by kernel_rfl) (by kernel_rfl) (fun _ _ _ h => h) (Or.inl ⟨by rfl, ?_⟩) hs0 ?_
        rotate_left 1
        · intro w hSw; clear hSw; go_simp <;> with_reducible rfl
        simp only [Act.put, List.setIfInBounds_toArray, List.set_cons_zero, List.set_cons_succ]
        refine Held.G_take (i := 20) (d := 83) (v := ?_) [20, 22, 23, 24, 26, 27, 28, 29, 30, 31, 32, 33, 34, 35, 36, 37, 38, 39, 40, 41, 42, 43, 44, 45] rfl rfl (by kernel_rfl) (by kernel_rfl) (by kernel_rfl) (by kernel_rfl) (fun _ _ _ h => h) (Or.inl ⟨by rfl, ?_⟩) hs0 ?_
        rotate_left 1
        · intro w hSw; clear hSw; go_simp <;> with_reducible rfl
        simp only [Act.put, List.setIfInBounds_toArray, List.set_cons_zero, List.set_cons_succ]
        refine Held.G_take (i := 21) (d := 84) (v := ?_) [21, 22, 23, 24, 26, 27, 28, 29, 30, 31, 32, 33, 34, 35, 36, 37, 38, 39, 40, 41, 42, 43, 44, 45] rfl rfl (by kernel_rfl) (by kernel_rfl) (by kernel_rfl) (by kernel_rfl) (fun _ _ _ h => h) (Or.inl ⟨by rfl, ?_⟩) hs0 ?_
        rotate_left 1
        · intro w hSw; clear hSw; go_simp <;> with_reducible rfl
        simp only [Act.put, List.setIfInBounds_toArray, List.set_cons_zero, List.set_cons_succ]
        refine Held.G_take (i := 22) (d := 85) (v := ?_) [22, 23, 24, 26, 27, 28, 29, 30, 31, 32, 33, 34, 35, 36, 37, 38, 39, 40, 41, 42, 43, 44, 45] rfl rfl (by kernel_rfl) (by kernel_rfl) (by kernel_rfl) (by kernel_rfl) (fun _ _ _ h => h) (Or.inl ⟨by rfl, ?_⟩) hs0 ?_
        rotate_left 1
        · intro w hSw; clear hSw; go_simp <;> with_reducible rfl
        simp only [Act.put, List.setIfInBounds_toArray, List.set_cons_zero, List.set_cons_succ]
        refine Held.G_take (i := 23) (d := 86) (v := ?_) [23, 24, 26, 27, 28, 29, 30, 31, 32, 33, 34, 35, 36, 37, 38, 39, 40, 41, 42, 43, 44, 45] rfl rfl (by kernel_rfl) (by kernel_rfl) (by kernel_rfl) (by kernel_rfl) (fun _ _ _ h => h) (Or.inl ⟨by rfl, ?_⟩) hs0 ?_
        rotate_left 1
        · intro w hSw; clear hSw; go_simp <;> with_reducible rfl
        simp only [Act.put, List.setIfInBounds_toArray, List.set_cons_zero, List.set_cons_succ]
        refine Held.G_take (i := 24) (d := 87) (v := ?_) [24, 26, 27, 28, 29, 30, 31, 32, 33, 34, 35, 36, 37, 38, 39, 40, 41, 42, 43, 44, 45] rfl rfl (by kernel_rfl) (by kernel_rfl) (by kernel_rfl) (by kernel_rfl) (fun _ _ _ h => h) (Or.inl ⟨by rfl, ?_⟩) hs0 ?_
        rotate_left 1
        · intro w hSw; obtain ⟨d0, d1, d2, e0, e1, e2, e3, e4, e5⟩ := hSw; go_simp <;> with_reducible rfl
        simp only [Act.put, List.setIfInBounds_toArray, List.set_cons_zero, List.set_cons_succ]
        refine Held.G_take (i := 25) (d := 88) (v := ?_) [25, 26, 27, 28, 29, 30, 31, 32, 33, 34, 35, 36, 37, 38, 39, 40, 41, 42, 43, 44, 45] rfl rfl (by kernel_rfl) (by kernel_rfl) (by kernel_rfl) (by kernel_rfl) (fun _ _ _ h => h) (Or.inl ⟨by rfl, ?_⟩) hs0 ?_
        rotate_left 1
        · intro w hSw; clear hSw; go_simp <;> with_reducible rfl
        simp only [Act.put, List.setIfInBounds_toArray, List.set_cons_zero, List.set_cons_succ]
        refine Held.G_take (i := 26) (d := 89) (v := ?_) [26, 27, 28, 29, 30, 31, 32, 33, 34, 35, 36, 37, 38, 39, 40, 41, 42, 43, 44, 45] rfl rfl (by kernel_rfl) (by kernel_rfl) (by kernel_rfl) (by kernel_rfl) (fun _ _ _ h => h) (Or.inl ⟨by rfl, ?_⟩) hs0 ?_
        rotate_left 1
        · intro w hSw; clear hSw; go_simp <;> with_reducible rfl
        simp only [Act.put, List.setIfInBounds_toArray, List.set_cons_zero, List.set_cons_succ]
        refine Held.G_take (i := 27) (d := 90) (v := ?_) [27, 28, 29, 30, 31, 32, 33, 34, 35, 36, 37, 38, 39, 40, 41, 42, 43, 44, 45] rfl rfl (by kernel_rfl) (by kernel_rfl) (by kernel_rfl) (by kernel_rfl) (fun _ _ _ h => h) (Or.inl ⟨by rfl, ?_⟩) hs0 ?_
        rotate_left 1
        · intro w hSw; clear hSw; go_simp <;> with_reducible rfl
        simp only [Act.put, List.setIfInBounds_toArray, List.set_cons_zero, List.set_cons_succ]
        refine Held.G_take (i := 28) (d := 91) (v := ?_) [28, 29, 30, 31, 32, 33, 34, 35, 36, 37, 38, 39, 40, 41, 42, 43, 44, 45] rfl rfl (by kernel_rfl) (by kernel_rfl) (by kernel_rfl) (by kernel_rfl) (fun _ _ _ h => h) (Or.inl ⟨by rfl, ?_⟩) hs0 ?_
        rotate_left 1
        · intro w hSw; clear hSw; go_simp <;> with_reducible rfl
        simp only [Act.put, List.setIfInBounds_toArray, List.set_cons_zero, List.set_cons_succ]
        refine Held.G_take (i := 29) (d := 92) (v := ?_) [29, 31, 32, 33, 35, 36, 37, 38, 39, 40, 41, 42, 43, 44, 45] rfl rfl (by kernel_rfl) (by kernel_rfl) (by kernel_rfl) (by kernel_rfl) (fun _ _ _ h => h) (Or.inl ⟨by rfl, ?_⟩) hs0 ?_
        rotate_left 1
        · intro w hSw; clear hSw; go_simp <;> with_reducible rfl
        simp only [Act.put, List.setIfInBounds_toArray, List.set_cons_zero, List.set_cons_succ]
        refine Held.G_take (i := 30) (d := 93) (v := ?_) [30, 31, 32, 33, 35, 36, 37, 38, 39, 40, 41, 42, 43, 44, 45] rfl rfl (by kernel_rfl) (by kernel_rfl) (by kernel_rfl) (by kernel_rfl) (fun _ _ _ h => h) (Or.inl ⟨by rfl, ?_⟩) hs0 ?_
        rotate_left 1
        · intro w hSw; clear hSw; go_simp <;> with_reducible rfl
        simp only [Act.put, List.setIfInBounds_toArray, List.set_cons_zero, List.set_cons_succ]
        refine Held.G_take (i := 31) (d := 94) (v := ?_) [31, 32, 33, 35, 36, 37, 38, 39, 40, 41, 42, 43, 44, 45] rfl rfl (by kernel_rfl) (by kernel_rfl) (by kernel_rfl) (by kernel_rfl) (fun _ _ _ h => h) (Or.inl ⟨by rfl, ?_⟩) hs0 ?_
        rotate_left 1
        · intro w hSw; clear hSw; go_simp <;> with_reducible rfl
        simp only [Act.put, List.setIfInBounds_toArray, List.set_cons_zero, List.set_cons_succ]
        refine Held.G_take (i := 32) (d := 95) (v := ?_) [32, 33, 35, 36, 37, 38, 39, 40, 41, 42, 43, 44, 45] rfl rfl (by kernel_rfl) (by kernel_rfl) (by kernel_rfl) (by kernel_rfl) (fun _ _ _ h => h) (Or.inl ⟨by rfl, ?_⟩) hs0 ?_
        rotate_left 1
        · intro w hSw; clear hSw; go_simp <;> with_reducible rfl
        simp only [Act.put, List.setIfInBounds_toArray, List.set_cons_zero, List.set_cons_succ]
        refine Held.G_take (i := 33) (d := 96) (v := ?_) [33, 35, 36, 37, 38, 39, 40, 41, 42, 43, 44, 45] rfl rfl (by kernel_rfl) (by kernel_rfl) (by kernel_rfl) (by kernel_rfl) (fun _ _ _ h => h) (Or.inl ⟨by rfl, ?_⟩) hs0 ?_
        rotate_left 1
        · intro w hSw; obtain ⟨d0, d1, d2, e0, e1, e2, e3, e4, e5⟩ := hSw; go_simp <;> with_reducible rfl
        simp only [Act.put, List.setIfInBounds_toArray, List.set_cons_zero, List.set_cons_succ]
        refine Held.G_take (i := 34) (d := 97) (v := ?_) [34, 35, 36, 37, 38, 39, 40, 41, 42, 43, 44, 45] rfl rfl (by kernel_rfl) (by kernel_rfl) (by kernel_rfl) (by kernel_rfl) (fun _ _ _ h => h) (Or.inl ⟨by rfl, ?_⟩) hs0 ?_
        rotate_left 1
        · intro w hSw; clear hSw; go_simp <;> with_reducible rfl
        simp only [Act.put, List.setIfInBounds_toArray, List.set_cons_zero, List.set_cons_succ]
        refine Held.G_take (i := 35) (d := 98) (v := ?_) [35, 36, 37, 38, 39, 40, 41, 42, 43, 44, 45] rfl rfl (by kernel_rfl) (by kernel_rfl) (by kernel_rfl) (by kernel_rfl) (fun _ _ _ h => h) (Or.inl ⟨by rfl, ?_⟩) hs0 ?_
        rotate_left 1
        · intro w hSw; clear hSw; go_simp <;> with_reducible rfl
        simp only [Act.put, List.setIfInBounds_toArray, List.set_cons_zero, List.set_cons_succ]
        refine Held.G_take (i := 36) (d := 99) (v := ?_) [36, 37, 38, 39, 40, 41, 42, 43, 44, 45] rfl rfl (by kernel_rfl) (by kernel_rfl) (by kernel_rfl) (by kernel_rfl) (fun _ _ _ h => h) (Or.inl ⟨by rfl, ?_⟩) hs0 ?_
        rotate_left 1
        · intro w hSw; clear hSw; go_simp <;> with_reducible rfl
        simp only [Act.put, List.setIfInBounds_toArray, List.set_cons_zero, List.set_cons_succ]
        refine Held.G_take (i := 37) (d := 100) (v := ?_) [37, 38, 39, 40, 41, 42, 43, 44, 45] rfl rfl (by kernel_rfl) (by kernel_rfl) (by kernel_rfl) (by kernel_rfl) (fun _ _ _ h => h) (Or.inl ⟨by rfl, ?_⟩) hs0 ?_
        rotate_left 1
        · intro w hSw; clear hSw; go_simp <;> with_reducible rfl
        simp only [Act.put, List.setIfInBounds_toArray, List.set_cons_zero, List.set_cons_succ]
        refine Held.G_take (i := 38) (d := 101) (v := ?_) [38, 43, 44, 45] rfl rfl (by kernel_rfl) (by kernel_rfl) (by kernel_rfl) (by kernel_rfl) (fun _ _ _ h => h) (Or.inl ⟨by rfl, ?_⟩) hs0 ?_
        rotate_left 1
        · intro w hSw; clear hSw; go_simp <;> with_reducible rfl
        simp only [Act.put, List.setIfInBounds_toArray, List.set_cons_zero, List.set_cons_succ]
        refine Held.G_take (i := 39) (d := 102) (v := ?_) [39, 41, 42, 43, 44, 45] rfl rfl (by kernel_rfl) (by kernel_rfl) (by kernel_rfl) (by kernel_rfl) (fun _ _ _ h => h) (Or.inl ⟨by rfl, ?_⟩) hs0 ?_
        rotate_left 1
        · intro w hSw; clear hSw; go_simp <;> with_reducible rfl
        simp only [Act.put, List.setIfInBounds_toArray, List.set_cons_zero, List.set_cons_succ]
        refine Held.G_take (i := 40) (d := 103) (v := ?_) [40, 41, 42, 43, 44, 45] rfl rfl (by kernel_rfl) (by kernel_rfl) (by kernel_rfl) (by kernel_rfl) (fun _ _ _ h => h) (Or.inl ⟨by rfl, ?_⟩) hs0 ?_
        rotate_left 1
        · intro w hSw; clear hSw; go_simp <;> with_reducible rfl
        simp only [Act.put, List.setIfInBounds_toArray, List.set_cons_zero, List.set_cons_succ]
        refine Held.G_take (i := 41) (d := 104) (v := ?_) [41, 42, 43, 44, 45] rfl rfl (by kernel_rfl) (by kernel_rfl) (by kernel_rfl) (by kernel_rfl) (fun _ _ _ h => h) (Or.inl ⟨by rfl, ?_⟩) hs0 ?_
        rotate_left 1
        · intro w hSw; clear hSw; go_simp <;> with_reducible rfl
        simp only [Act.put, List.setIfInBounds_toArray, List.set_cons_zero, List.set_cons_succ]
        refine Held.G_take (i := 42) (d := 105) (v := ?_) [42, 43, 44, 45] rfl rfl (by kernel_rfl) (by kernel_rfl) (by kernel_rfl) (by kernel_rfl) (fun _ _ _ h => h) (Or.inl ⟨by rfl, ?_⟩) hs0 ?_
        rotate_left 1
        · intro w hSw; obtain ⟨d0, d1, d2, e0, e1, e2, e3, e4, e5⟩ := hSw; go_simp <;> with_reducible rfl
        simp only [Act.put, List.setIfInBounds_toArray, List.set_cons_zero, List.set_cons_succ]
        refine Held.G_ready (rs := [43]) (by decide +kernel) (by simp) ?_
        refine Held.G_cons rfl (fun KK hK => ?_) Held.G_nil
        go_simp
        have hh := HHS.out _ hbw0
        (with_reducible refine hh.mono ?_)
        clear hh
        rintro e u1 ⟨rfl, hb1⟩
        have hs1 := UsS.below hs0 hb1
        have hbw1 := Below.step hbw0 hb1
        clear hb1 hs0 hbw0
        go_simp
        refine hK _ _ ?_
        clear hK KK
        refine ⟨hs1, ?_⟩
        refine Held.G_take (i := 44) (d := 107) (v := ?_) [44, 45] rfl rfl (by kernel_rfl) (by kernel_rfl) (by kernel_rfl) (by kernel_rfl) (fun _ _ _ h => h) (Or.inl ⟨by rfl, ?_⟩) hs1 ?_
        rotate_left 1
        · intro w hSw; clear hSw; go_simp <;> with_reducible rfl
        simp only [Act.put, List.setIfInBounds_toArray, List.set_cons_zero, List.set_cons_succ]
        refine Held.G_ready (rs := [45]) (by decide +kernel) (by simp) ?_
        refine Held.G_last rfl (fun KK hK => ?_) Held.G_nil
        go_simp
        refine hK _ _ ?_
        clear hK KK
        refine Held.G_done (by kernel_rfl) ?_ _
        clear hx1 hx2 hne
        go_wp2_with fail
        go_roundw
        case rel => exact ⟨k + 1, by have := HLT.out; omega, by go_num, hbw1⟩
        case measure => have := HLT.out; simp [intOf]; omega
      · have HF := Lib.hid (HBw6.out.trans ((Below.step HB8.out hbw).mono HBw6.out.size))
        go_wp2_with fail
        go_ret
        exact ⟨rfl, HF.out⟩
end Go.Proofs.YtilcnhdfdgmekaaGreat.FactsUsersL
