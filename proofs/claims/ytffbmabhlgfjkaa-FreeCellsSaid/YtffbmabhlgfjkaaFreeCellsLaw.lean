/- The walk of FreeCells. -/
import Derived.Test.YtffbmabhlgfjkaaFreeLaw
namespace Go.Proofs.Ytffbmabhlgfjkaa.FreeCellsLaw
open Go.RowKit Base FreePlain FreePlain2 FreeMem FreeText FreeCellsOf FreePages FreeOf FreeCells FreeRefCheck FreeRefPut FreeCheck FreeSl FreePut FreeFind FreeAwake FreeLaw

/-- the i-th page -/
theorem page_get {w : World} {A : Option Addr} {ps : List Ps} (h : Row w w.heap.size A (ps.map psv)) (k : Nat) (hk : k < ps.length) : ∃ ad, A = some ad ∧ w.cell? (ad.add k) = some (.slice (ps[k]).1 (ps[k]).2.2.length (ps[k]).2.1) := by
  obtain ⟨ad, e, _, hc⟩ := h.get k (by simpa using hk)
  exact ⟨ad, e, by simpa [psv] using hc⟩
set_option maxRecDepth 100000 in
set_option maxHeartbeats 6400000 in
theorem FreeCells_walk (A : Option Addr) (c : Nat) (l : Fs) (W : World) (hr : Row W W.heap.size A (fr l)) (hn : l.length ≤ maxLen) :
    Calls Try.prog 4 #[.slice A l.length c] W (Law W) := by
  have HR := Lib.hid hr
  clear hr
  unfold Law
  simp only [maxLen] at hn
  by_cases h1 : 300 < l.length
  · go_enter Try.func4, Try.ntmps4
    go_wp2_with fail
    refine (awake_any W).mono ?_
    rintro e w1 ⟨rfl, b1⟩
    go_wp2_with fail
    go_ret
    exact ⟨rfl, b1⟩
  · obtain ⟨A1, c1, w1, hrun, ho1, b1⟩ := copyF W A l.length c l rfl HR.out (by omega)
    have hcall := cells_any w1 A1 l.length c1 l rfl ho1.cap.1 ho1.row (by omega)
    clear ho1
    go_enter Try.func4, Try.ntmps4
    go_wp2_with (at_builtin; refine wpList_append_runG rfl (.tmp 14) (.tmp 15) 22 22 rfl rfl rfl hrun ?_)
    clear hrun
    (with_reducible refine hcall.mono ?_)
    clear hcall
    rintro e w2 ⟨b2', hcase⟩
    have b2 := bst b1 b1.size b2'
    clear b2'
    rcases hcase with ⟨hg, A3, m3, c3, cs, rfl, hm3, hout, hpg⟩ | ⟨hg, rfl⟩
    · have HOUT := Lib.hid (show OutS W.heap.size cs A3 c3 w2 by
        obtain ⟨ps, e, ho, h⟩ := hout
        exact ⟨ps, e, ⟨ho.1, by
          rcases ho.2 with h2 | ⟨g, cap, cur, h3, h4, h5⟩
          · exact .inl h2
          · exact .inr ⟨g, cap, cur, h3, Nat.le_trans b1.size h4, h5⟩⟩, h⟩)
      have HM3 := Lib.hid hm3
      have HPG := Lib.hid hpg
      have HG := Lib.hid hg
      clear b1 hout hm3 hpg hg
      have hcall := rcheck_any w2 A l.length c l true rfl (HR.out.belowSize b2) (by omega) (iff_of_true rfl HG.out)
      go_wp2_with fail
      (with_reducible refine hcall.mono ?_)
      clear hcall
      rintro e w3 ⟨rfl, b3'⟩
      have b3 := bst b2 b2.size b3'
      have HOUT := Lib.hid (HOUT.out.below b3')
      clear b2 b3'
      have hcall := FreeRefCells.rcells_any w3 A l.length c l rfl (HR.out.belowSize b3) (by omega) HG.out.1
      go_wp2_with fail
      (with_reducible refine hcall.mono ?_)
      clear hcall
      rintro e w4 ⟨A5, m5, c5, cs2, rfl, hm5, hout5, hpg5, b4'⟩
      have b4 := bst b3 b3.size b4'
      have HOUT := Lib.hid (HOUT.out.below b4')
      obtain rfl := pages_one hpg5 HPG.out
      have hmm : m5 = m3 := hm5.trans HM3.out.symm
      subst hmm
      have HOUT5 := Lib.hid hout5
      clear b3 b4' hm5 hout5 hpg5
      go_wp2_with fail
      refine (awake_any w4).mono ?_
      rintro e w5 ⟨rfl, b5'⟩
      have b5 := bst b4 b4.size b5'
      have HOUT := Lib.hid (HOUT.out.below b5')
      have HOUT5 := Lib.hid (HOUT5.out.below b5')
      clear b4 b5'
      have hcall := check_any w5 A l.length c l true rfl (HR.out.belowSize b5) (by omega) (iff_of_true rfl HG.out)
      go_wp2_with fail
      (with_reducible refine hcall.mono ?_)
      clear hcall
      rintro e w6 ⟨rfl, b6'⟩
      have b6 := bst b5 b5.size b6'
      have HOUT := Lib.hid (HOUT.out.below b6')
      have HOUT5 := Lib.hid (HOUT5.out.below b6')
      clear b5 b6'
      have hm3b : m5 ≤ 100 := by
        rw [HM3.out]
        have h1 := HPG.out.1
        have h2 := HPG.out.2
        rcases FreeRefCells.snoc_cases cs2 with e | ⟨qs, r, e⟩
        · rw [e]; simp
        · rw [e] at h1 h2 ⊢
          obtain ⟨a1, a2, a3⟩ := FreeRefCells.shape_snoc.1 h1
          have h3 : (qs ++ [r]).flatten.length = l.length := by rw [h2, texts_len]
          rw [List.flatten_append, List.length_append, FreeRefCells.full_len a1] at h3
          simp at h3 ⊢
          omega
      obtain ⟨ps, hps, hou, hrs⟩ := HOUT.out
      obtain ⟨qs, hqs, hoq, hrq⟩ := HOUT5.out
      have hpl : ps.length = m5 := by rw [HM3.out, hps]; simp [cellsP]
      have hql : qs.length = m5 := by rw [HM3.out, hqs]; simp [cellsP]
      have HROW := Lib.hid hou.row
      have HROQ := Lib.hid hoq.row
      have HRS := Lib.hid (fun p hp => (hrs p hp).row)
      have HRQ := Lib.hid (fun p hp => (hrq p hp).row)
      have HEQ := Lib.hid (show ∀ k (h1 : k < ps.length) (h2 : k < qs.length), (ps[k]).2.2 = (qs[k]).2.2 from fun k h1 h2 => by
        have e := hps.symm.trans hqs
        have := congrArg (fun z => z[k]?) e
        simpa [cellsP, List.getElem?_eq_getElem h1, List.getElem?_eq_getElem h2] using this)
      have HPL := Lib.hid hpl
      have HQL := Lib.hid hql
      have HTX := Lib.hid (show ∀ k (h1 : k < ps.length), (ps[k]).2.2.length ≤ 23 from fun k h1 => by
        have := HPG.out.1 k (by rw [hps]; simpa [cellsP] using h1)
        have e2 : (cs2[k]'(by rw [hps]; simpa [cellsP] using h1)).length = (ps[k]).2.2.length := by
          simp only [hps, cellsP, List.getElem_map]
        omega)
      have HOF := Lib.hid (show ∀ (w : World), Below w6.heap.size w6 w → Calls Try.prog 23 #[.slice A3 m5 c3] w (OfPost w cs2) from fun w hw => by
        have := of_any w A3 m5 c3 ps HPL.out.symm (hou.row.belowSize hw) (fun p hp => ((hrs p hp).row).belowSize hw) (by rw [HPL.out]; omega) (fun p hp => by
          obtain ⟨k, hk, rfl⟩ := List.mem_iff_getElem.1 hp
          have := HTX.out k hk
          omega)
        rw [← hps] at this
        exact this)
      clear HOUT HOUT5 hps hou hrs hqs hoq hrq hpl hql
      go_wp2_with fail
      go_loopw [6] (fun i wr => ∃ k : Nat, k ≤ m5 ∧ i = .int .i64 k ∧ Below w6.heap.size w6 wr) (fun i _ => m5 - (intOf i).toNat)
      case atStart => exact ⟨0, by omega, rfl, Below.refl _ _⟩
      case round =>
        obtain ⟨k, hk, rfl, hb⟩ := hrel
        by_cases hlt : k < m5
        · have hk1 : k < ps.length := by rw [HPL.out]; exact hlt
          have hk2 : k < qs.length := by rw [HQL.out]; exact hlt
          obtain ⟨ad, hA, cc1⟩ := page_get HROW.out k hk1
          obtain ⟨bd, hB, dd1⟩ := page_get HROQ.out k hk2
          subst hA hB
          have HS := Lib.hid (fun (w : World) (hw : Below w6.heap.size w6 w) => same_any w (ps[k]).1 (qs[k]).1 (ps[k]).2.2.length (ps[k]).2.1 (qs[k]).2.2.length (qs[k]).2.1 (ps[k]).2.2 (qs[k]).2.2 true rfl rfl ((HRS.out _ (List.getElem_mem hk1)).belowSize hw) ((HRQ.out _ (List.getElem_mem hk2)).belowSize hw) (by have := HTX.out k hk1; omega) (iff_of_true rfl (HEQ.out k hk1 hk2)))
          have HCC := Lib.hid (fun (w : World) (hw : Below w6.heap.size w6 w) => (hw.cell (p := ad.add k) (World.block_lt_of_cell? w6 _ cc1)).trans cc1)
          have HDD := Lib.hid (fun (w : World) (hw : Below w6.heap.size w6 w) => (hw.cell (p := bd.add k) (World.block_lt_of_cell? w6 _ dd1)).trans dd1)
          clear cc1 dd1
          generalize (ps[k]).2.2.length = n1 at *
          generalize (ps[k]).2.1 = k1 at *
          generalize (ps[k]).1 = B1 at *
          generalize (qs[k]).2.2.length = n2 at *
          generalize (qs[k]).2.1 = k2 at *
          generalize (qs[k]).1 = B2 at *
          go_wp2_with fail
          refine wp_region_any (by kernel_rfl) ?_
          change wpAny _ _ _ _ _ _ _ (World.drew _)
          obtain ⟨u0, hu0⟩ : ∃ v, v = World.drew wr := ⟨_, rfl⟩
          rw [← hu0]
          have hB0 : Below w6.heap.size w6 u0 := by rw [hu0]; exact hb.drew
          clear hu0
          refine Reg.take_at (i := 0) (d := 64) (v := ?_) rfl rfl (by kernel_rfl) (by kernel_rfl) (by kernel_rfl) (fun _ _ _ h => h) (Or.inl ⟨by rfl, ?_⟩) ?_
          rotate_left 1
          · intro w; go_simp <;> with_reducible rfl
          simp only [Act.put, List.setIfInBounds_toArray, List.set_cons_zero, List.set_cons_succ]
          refine Reg.take_at (i := 1) (d := 65) (v := ?_) rfl rfl (by kernel_rfl) (by kernel_rfl) (by kernel_rfl) (fun _ _ _ h => h) (Or.inl ⟨by rfl, ?_⟩) ?_
          rotate_left 1
          · intro w; go_simp <;> with_reducible rfl
          simp only [Act.put, List.setIfInBounds_toArray, List.set_cons_zero, List.set_cons_succ]
          refine Reg.take_at (i := 2) (d := 66) (v := ?_) rfl rfl (by kernel_rfl) (by kernel_rfl) (by kernel_rfl) (fun _ _ _ h => h) (Or.inl ⟨by rfl, ?_⟩) ?_
          rotate_left 1
          · intro w; go_simp <;> with_reducible rfl
          simp only [Act.put, List.setIfInBounds_toArray, List.set_cons_zero, List.set_cons_succ]
          refine Reg.take_at (i := 4) (d := 68) (v := ?_) rfl rfl (by kernel_rfl) (by kernel_rfl) (by kernel_rfl) (fun _ _ _ h => h) (Or.inl ⟨by rfl, ?_⟩) ?_
          rotate_left 1
          · intro w; go_simp <;> with_reducible rfl
          simp only [Act.put, List.setIfInBounds_toArray, List.set_cons_zero, List.set_cons_succ]
          refine Reg.take_at (i := 5) (d := 69) (v := ?_) rfl rfl (by kernel_rfl) (by kernel_rfl) (by kernel_rfl) (fun _ _ _ h => h) (Or.inl ⟨by rfl, ?_⟩) ?_
          rotate_left 1
          · intro w; go_simp <;> with_reducible rfl
          simp only [Act.put, List.setIfInBounds_toArray, List.set_cons_zero, List.set_cons_succ]
          refine Reg.take_at (i := 6) (d := 70) (v := ?_) rfl rfl (by kernel_rfl) (by kernel_rfl) (by kernel_rfl) (fun _ _ _ h => h) (Or.inl ⟨by rfl, ?_⟩) ?_
          rotate_left 1
          · intro w; go_simp <;> with_reducible rfl
          simp only [Act.put, List.setIfInBounds_toArray, List.set_cons_zero, List.set_cons_succ]
          refine wpAny_ready (rs := [3, 7]) (by decide +kernel) (by simp) ?_
          refine AllReady.cons rfl (fun KK hK => ?_) ?_
          · have hx1 := HCC.out _ hB0
            go_simp
            refine hK _ _ ?_
            clear hK KK hx1
            refine wpAny_ready (rs := [7]) (by decide +kernel) (by simp) ?_
            refine AllReady.cons rfl (fun KK hK => ?_) AllReady.nil
            have hx1 := HDD.out _ hB0
            go_simp
            refine hK _ _ ?_
            clear hK KK hx1
            refine wpAny_ready (rs := [8]) (by decide +kernel) (by simp) ?_
            refine AllReady.cons rfl (fun KK hK => ?_) AllReady.nil
            go_simp
            (with_reducible refine (HS.out _ hB0).mono ?_)
            rintro e u1 ⟨rfl, hst⟩
            have hB1 := bst hB0 hB0.size hst
            clear hst
            go_simp
            refine hK _ _ ?_
            clear hK KK
            refine Reg.take_at (i := 9) (d := 73) (v := ?_) rfl rfl (by kernel_rfl) (by kernel_rfl) (by kernel_rfl) (fun _ _ _ h => h) (Or.inl ⟨by rfl, ?_⟩) ?_
            rotate_left 1
            · intro w; go_simp <;> with_reducible rfl
            simp only [Act.put, List.setIfInBounds_toArray, List.set_cons_zero, List.set_cons_succ]
            refine wpAny_done (by kernel_rfl) ?_ _
            go_wp2_with fail
            go_roundw
            case rel => exact ⟨k + 1, by omega, by go_num, hB1⟩
            case measure => simp [intOf]; omega
          refine AllReady.cons rfl (fun KK hK => ?_) AllReady.nil
          have hx1 := HDD.out _ hB0
          go_simp
          refine hK _ _ ?_
          clear hK KK hx1
          refine wpAny_ready (rs := [3]) (by decide +kernel) (by simp) ?_
          refine AllReady.cons rfl (fun KK hK => ?_) AllReady.nil
          have hx1 := HCC.out _ hB0
          go_simp
          refine hK _ _ ?_
          clear hK KK hx1
          refine wpAny_ready (rs := [8]) (by decide +kernel) (by simp) ?_
          refine AllReady.cons rfl (fun KK hK => ?_) AllReady.nil
          go_simp
          (with_reducible refine (HS.out _ hB0).mono ?_)
          rintro e u1 ⟨rfl, hst⟩
          have hB1 := bst hB0 hB0.size hst
          clear hst
          go_simp
          refine hK _ _ ?_
          clear hK KK
          refine Reg.take_at (i := 9) (d := 73) (v := ?_) rfl rfl (by kernel_rfl) (by kernel_rfl) (by kernel_rfl) (fun _ _ _ h => h) (Or.inl ⟨by rfl, ?_⟩) ?_
          rotate_left 1
          · intro w; go_simp <;> with_reducible rfl
          simp only [Act.put, List.setIfInBounds_toArray, List.set_cons_zero, List.set_cons_succ]
          refine wpAny_done (by kernel_rfl) ?_ _
          go_wp2_with fail
          go_roundw
          case rel => exact ⟨k + 1, by omega, by go_num, hB1⟩
          case measure => simp [intOf]; omega
        · obtain rfl : k = m5 := by omega
          have b7 := bst b6 b6.size hb
          have hcall := HOF.out wr hb
          clear HRS HRQ HROW HROQ HOF
          go_wp2_with fail
          (with_reducible refine hcall.mono ?_)
          clear hcall
          rintro e w8 ⟨b8', hcase⟩
          rcases hcase with ⟨A9, m9, c9, l9, rfl, hm9, ho9, hg9, hp9⟩ | ⟨_, hno⟩
          · obtain rfl := of_pages hp9 HPG.out hg9 HG.out
            have b8 := bst b7 b7.size b8'
            have hcall := rsame_any w8 A A9 l9.length c m9 c9 l9 l9 true rfl hm9 (HR.out.belowSize b8) ho9.row (by omega) (iff_of_true rfl rfl)
            clear hm9 ho9 b7 b8'
            go_wp2_with fail
            (with_reducible refine hcall.mono ?_)
            clear hcall
            rintro e w9 ⟨rfl, b9'⟩
            have b9 := bst b8 b8.size b9'
            clear b8 b9'
            go_wp2_with fail
            go_ret
            exact ⟨rfl, b9⟩
          · exact absurd HPG.out (hno _ HG.out)
    · have HG := Lib.hid hg
      clear hg
      have hcall := rcheck_any w2 A l.length c l false rfl (HR.out.belowSize b2) (by omega) (iff_of_false (by decide) HG.out)
      go_wp2_with fail
      (with_reducible refine hcall.mono ?_)
      clear hcall
      rintro e w3 ⟨rfl, b3'⟩
      have b3 := bst b2 b2.size b3'
      clear b2 b3'
      go_wp2_with fail
      refine (awake_any w3).mono ?_
      rintro e w4 ⟨rfl, b4'⟩
      have b4 := bst b3 b3.size b4'
      clear b3 b4'
      have hcall := check_any w4 A l.length c l false rfl (HR.out.belowSize b4) (by omega) (iff_of_false (by decide) HG.out)
      go_wp2_with fail
      (with_reducible refine hcall.mono ?_)
      clear hcall
      rintro e w5 ⟨rfl, b5'⟩
      have b5 := bst b4 b4.size b5'
      clear b4 b5'
      go_wp2_with fail
      go_ret
      exact ⟨rfl, b5⟩
end Go.Proofs.Ytffbmabhlgfjkaa.FreeCellsLaw
