/- The walk of FreeOf. -/
import Derived.Test.YtffbmabhlgfjkaaFreeCellsLaw
namespace Go.Proofs.Ytffbmabhlgfjkaa.FreeOfLaw
open Go.RowKit Base FreePlain FreePlain2 FreeMem FreeText FreeCellsOf FreePages FreeOf FreeCells FreeRefCheck FreeRefPut FreeCheck FreeSl FreePut FreeFind FreeAwake FreeLaw FreeCellsLaw

set_option maxRecDepth 100000 in
set_option maxHeartbeats 6400000 in
theorem FreeOf_walk (A : Option Addr) (c : Nat) (ps : List Ps) (W : World) (hr : Row W W.heap.size A (ps.map psv)) (hp : ∀ p ∈ ps, Row W W.heap.size p.1 (strs p.2.2)) (hn : ps.length ≤ maxLen) (hm : ∀ p ∈ ps, p.2.2.length ≤ maxLen) :
    Calls Try.prog 5 #[.slice A ps.length c] W (Law W) := by
  have HR := Lib.hid hr
  have HP := Lib.hid hp
  have HML := Lib.hid hm
  clear hr hp hm
  unfold Law
  simp only [maxLen] at hn
  by_cases h1 : 20 < ps.length
  · go_enter Try.func5, Try.ntmps5
    go_wp2_with fail
    refine (awake_any W).mono ?_
    rintro e w1 ⟨rfl, b1⟩
    go_wp2_with fail
    go_ret
    exact ⟨rfl, b1⟩
  · have h20 : ps.length ≤ 20 := by omega
    go_enter Try.func5, Try.ntmps5
    go_wp2_with fail
    go_loopw [3] (fun i wr => ∃ k : Nat, k ≤ ps.length ∧ i = .int .i64 k ∧ (∀ j (_ : j < k) (h : j < ps.length), (ps[j]).2.2.length ≤ 50) ∧ wr = W) (fun i _ => ps.length - (intOf i).toNat)
    case atStart => exact ⟨0, by omega, rfl, by intro j h; omega, rfl⟩
    case round =>
      obtain ⟨k, hk, rfl, hpre, hw⟩ := hrel
      have hw := hw.symm
      subst hw
      have HPRE := Lib.hid hpre
      clear hpre
      by_cases hlt : k < ps.length
      · obtain ⟨ad, hA, cc1⟩ := page_get HR.out k hlt
        subst hA
        have hlm := HML.out _ (List.getElem_mem hlt)
        simp only [maxLen] at hlm
        by_cases h50 : 50 < (ps[k]).2.2.length
        · generalize (ps[k]).2.2.length = n1 at *
          generalize (ps[k]).2.1 = k1 at *
          generalize (ps[k]).1 = B1 at *
          go_wp2_with fail
          refine (awake_any W).mono ?_
          rintro e w1 ⟨rfl, b1⟩
          go_wp2_with fail
          go_ret
          exact ⟨rfl, b1⟩
        · have HNX := Lib.hid (show ∀ j (_ : j < k + 1) (h : j < ps.length), (ps[j]).2.2.length ≤ 50 from fun j hj h => by
            rcases Nat.lt_or_ge j k with q | q
            · exact HPRE.out j q h
            · obtain rfl : j = k := by omega
              omega)
          generalize (ps[k]).2.2.length = n1 at *
          generalize (ps[k]).2.1 = k1 at *
          generalize (ps[k]).1 = B1 at *
          go_wp2_with fail
          go_roundw
          case rel => exact ⟨k + 1, by omega, by go_num, HNX.out, trivial⟩
          case measure => simp [intOf]; omega
      · obtain rfl : k = ps.length := by omega
        have H50 := Lib.hid (show ∀ p ∈ ps, p.2.2.length ≤ 50 from fun p hp => by
          obtain ⟨i, hi, rfl⟩ := List.mem_iff_getElem.1 hp
          exact HPRE.out i hi hi)
        have hcall := of_any W A ps.length c ps rfl HR.out HP.out (by omega) (fun p hp => by have := H50.out p hp; omega)
        clear HPRE
        go_wp2_with fail
        (with_reducible refine hcall.mono ?_)
        clear hcall
        rintro e w1 ⟨b1, hcase⟩
        rcases hcase with ⟨A1, m1, c1, l, rfl, hm1, ho1, hg, hpg⟩ | ⟨rfl, _⟩
        · have HM1 := Lib.hid hm1
          have HO1 := Lib.hid ho1
          have HG := Lib.hid hg
          have HPG := Lib.hid hpg
          have hll : l.length ≤ 1000 := by
            have h1 := hpg.1
            have h2 := hpg.2
            have h3 : (cellsP ps).length = ps.length := by simp [cellsP]
            rcases FreeRefCells.snoc_cases (cellsP ps) with e | ⟨qs, r, e⟩
            · rw [e] at h2
              have := congrArg List.length h2
              rw [texts_len] at this
              simp at this
              omega
            · rw [e] at h1 h2 h3
              obtain ⟨a1, a2, a3⟩ := FreeRefCells.shape_snoc.1 h1
              have h4 : (qs ++ [r]).flatten.length = l.length := by rw [h2, texts_len]
              rw [List.flatten_append, List.length_append, FreeRefCells.full_len a1] at h4
              simp at h4 h3
              omega
          have HLL := Lib.hid hll
          clear hm1 ho1 hg hpg hll
          have hcall := FreeRefCells.rcells_any w1 A1 m1 c1 l HM1.out HO1.out.row HLL.out HG.out.1
          go_wp2_with fail
          (with_reducible refine hcall.mono ?_)
          clear hcall
          rintro e w2 ⟨A2, m2, c2, cs2, rfl, hm2, hout2, hpg2, b2'⟩
          have b2 := bst b1 b1.size b2'
          obtain rfl := pages_one hpg2 HPG.out
          have hmm : m2 = ps.length := by rw [hm2]; simp [cellsP]
          subst hmm
          have HOUT := Lib.hid hout2
          have HO1 := Lib.hid (HO1.out.later b2')
          clear b1 b2' hm2 hout2 hpg2
          go_wp2_with fail
          refine (awake_any w2).mono ?_
          rintro e w3 ⟨rfl, b3'⟩
          have b3 := bst b2 b2.size b3'
          have HOUT := Lib.hid (HOUT.out.below b3')
          have HO1 := Lib.hid (HO1.out.later b3')
          clear b2 b3'
          have hcall := rcheck_any w3 A1 m1 c1 l true HM1.out HO1.out.row (by have := HLL.out; omega) (iff_of_true rfl HG.out)
          go_wp2_with fail
          (with_reducible refine hcall.mono ?_)
          clear hcall
          rintro e w4 ⟨rfl, b4'⟩
          have b4 := bst b3 b3.size b4'
          have HOUT := Lib.hid (HOUT.out.below b4')
          clear b3 b4' HO1
          obtain ⟨qs, hqs, hoq, hrq⟩ := HOUT.out
          have hql : qs.length = ps.length := by
            have := congrArg List.length hqs
            simpa [cellsP] using this.symm
          have HROW := Lib.hid (HR.out.belowSize b4)
          have HROQ := Lib.hid hoq.row
          have HRS := Lib.hid (fun p hp => (HP.out p hp).belowSize b4)
          have HRQ := Lib.hid (fun p hp => (hrq p hp).row)
          have HEQ := Lib.hid (show ∀ k (h1 : k < ps.length) (h2 : k < qs.length), (ps[k]).2.2 = (qs[k]).2.2 from fun k h1 h2 => by
            have := congrArg (fun z => z[k]?) hqs
            simpa [cellsP, List.getElem?_eq_getElem h1, List.getElem?_eq_getElem h2] using this)
          have HQL := Lib.hid hql
          clear HOUT hqs hoq hrq hql
          go_wp2_with fail
          go_loopw [7] (fun i wr => ∃ k : Nat, k ≤ ps.length ∧ i = .int .i64 k ∧ Below w4.heap.size w4 wr) (fun i _ => ps.length - (intOf i).toNat)
          case atStart => exact ⟨0, by omega, rfl, Below.refl _ _⟩
          case round =>
            obtain ⟨k, hk, rfl, hb⟩ := hrel
            by_cases hlt : k < ps.length
            · have hk1 : k < ps.length := hlt
              have hk2 : k < qs.length := by rw [HQL.out]; exact hlt
              obtain ⟨ad, hA, cc1⟩ := page_get HROW.out k hk1
              obtain ⟨bd, hB, dd1⟩ := page_get HROQ.out k hk2
              subst hA hB
              have HS := Lib.hid (fun (w : World) (hw : Below w4.heap.size w4 w) => same_any w (ps[k]).1 (qs[k]).1 (ps[k]).2.2.length (ps[k]).2.1 (qs[k]).2.2.length (qs[k]).2.1 (ps[k]).2.2 (qs[k]).2.2 true rfl rfl ((HRS.out _ (List.getElem_mem hk1)).belowSize hw) ((HRQ.out _ (List.getElem_mem hk2)).belowSize hw) (by have := H50.out _ (List.getElem_mem hk1); omega) (iff_of_true rfl (HEQ.out k hk1 hk2)))
              have HCC := Lib.hid (fun (w : World) (hw : Below w4.heap.size w4 w) => (hw.cell (p := ad.add k) (World.block_lt_of_cell? w4 _ cc1)).trans cc1)
              have HDD := Lib.hid (fun (w : World) (hw : Below w4.heap.size w4 w) => (hw.cell (p := bd.add k) (World.block_lt_of_cell? w4 _ dd1)).trans dd1)
              clear cc1 dd1
              generalize (ps[k]).2.2.length = n1 at *
              generalize (ps[k]).2.1 = k1 at *
              generalize (ps[k]).1 = B1 at *
              generalize (qs[k]).2.2.length = n2 at *
              generalize (qs[k]).2.1 = k2 at *
              generalize (qs[k]).1 = B2 at *
              go_wp2_with fail
              refine wp_region_any (by kernel_rfl) ?_
              change wpAny _ _ _ _ _ _ _ (World.drew _)
              obtain ⟨u0, hu0⟩ : ∃ v, v = World.drew wr := ⟨_, rfl⟩
              rw [← hu0]
              have hB0 : Below w4.heap.size w4 u0 := by rw [hu0]; exact hb.drew
              clear hu0
              refine Reg.take_at (i := 0) (d := 64) (v := ?_) rfl rfl (by kernel_rfl) (by kernel_rfl) (by kernel_rfl) (fun _ _ _ h => h) (Or.inl ⟨by rfl, ?_⟩) ?_
              rotate_left 1
              · intro w; go_simp <;> with_reducible rfl
              simp only [Act.put, List.setIfInBounds_toArray, List.set_cons_zero, List.set_cons_succ]
              refine Reg.take_at (i := 1) (d := 65) (v := ?_) rfl rfl (by kernel_rfl) (by kernel_rfl) (by kernel_rfl) (fun _ _ _ h => h) (Or.inl ⟨by rfl, ?_⟩) ?_
              rotate_left 1
              · intro w; go_simp <;> with_reducible rfl
              simp only [Act.put, List.setIfInBounds_toArray, List.set_cons_zero, List.set_cons_succ]
              refine Reg.take_at (i := 2) (d := 66) (v := ?_) rfl rfl (by kernel_rfl) (by kernel_rfl) (by kernel_rfl) (fun _ _ _ h => h) (Or.inl ⟨by rfl, ?_⟩) ?_
              rotate_left 1
              · intro w; go_simp <;> with_reducible rfl
              simp only [Act.put, List.setIfInBounds_toArray, List.set_cons_zero, List.set_cons_succ]
              refine Reg.take_at (i := 4) (d := 68) (v := ?_) rfl rfl (by kernel_rfl) (by kernel_rfl) (by kernel_rfl) (fun _ _ _ h => h) (Or.inl ⟨by rfl, ?_⟩) ?_
              rotate_left 1
              · intro w; go_simp <;> with_reducible rfl
              simp only [Act.put, List.setIfInBounds_toArray, List.set_cons_zero, List.set_cons_succ]
              refine Reg.take_at (i := 5) (d := 69) (v := ?_) rfl rfl (by kernel_rfl) (by kernel_rfl) (by kernel_rfl) (fun _ _ _ h => h) (Or.inl ⟨by rfl, ?_⟩) ?_
              rotate_left 1
              · intro w; go_simp <;> with_reducible rfl
              simp only [Act.put, List.setIfInBounds_toArray, List.set_cons_zero, List.set_cons_succ]
              refine Reg.take_at (i := 6) (d := 70) (v := ?_) rfl rfl (by kernel_rfl) (by kernel_rfl) (by kernel_rfl) (fun _ _ _ h => h) (Or.inl ⟨by rfl, ?_⟩) ?_
              rotate_left 1
              · intro w; go_simp <;> with_reducible rfl
              simp only [Act.put, List.setIfInBounds_toArray, List.set_cons_zero, List.set_cons_succ]
              refine wpAny_ready (rs := [3, 7]) (by decide +kernel) (by simp) ?_
              refine AllReady.cons rfl (fun KK hK => ?_) ?_
              · have hx1 := HCC.out _ hB0
                go_simp
                refine hK _ _ ?_
                clear hK KK hx1
                refine wpAny_ready (rs := [7]) (by decide +kernel) (by simp) ?_
                refine AllReady.cons rfl (fun KK hK => ?_) AllReady.nil
                have hx1 := HDD.out _ hB0
                go_simp
                refine hK _ _ ?_
                clear hK KK hx1
                refine wpAny_ready (rs := [8]) (by decide +kernel) (by simp) ?_
                refine AllReady.cons rfl (fun KK hK => ?_) AllReady.nil
                go_simp
                (with_reducible refine (HS.out _ hB0).mono ?_)
                rintro e u1 ⟨rfl, hst⟩
                have hB1 := bst hB0 hB0.size hst
                clear hst
                go_simp
                refine hK _ _ ?_
                clear hK KK
                refine Reg.take_at (i := 9) (d := 73) (v := ?_) rfl rfl (by kernel_rfl) (by kernel_rfl) (by kernel_rfl) (fun _ _ _ h => h) (Or.inl ⟨by rfl, ?_⟩) ?_
                rotate_left 1
                · intro w; go_simp <;> with_reducible rfl
                simp only [Act.put, List.setIfInBounds_toArray, List.set_cons_zero, List.set_cons_succ]
                refine wpAny_done (by kernel_rfl) ?_ _
                go_wp2_with fail
                go_roundw
                case rel => exact ⟨k + 1, by omega, by go_num, hB1⟩
                case measure => simp [intOf]; omega
              refine AllReady.cons rfl (fun KK hK => ?_) AllReady.nil
              have hx1 := HDD.out _ hB0
              go_simp
              refine hK _ _ ?_
              clear hK KK hx1
              refine wpAny_ready (rs := [3]) (by decide +kernel) (by simp) ?_
              refine AllReady.cons rfl (fun KK hK => ?_) AllReady.nil
              have hx1 := HCC.out _ hB0
              go_simp
              refine hK _ _ ?_
              clear hK KK hx1
              refine wpAny_ready (rs := [8]) (by decide +kernel) (by simp) ?_
              refine AllReady.cons rfl (fun KK hK => ?_) AllReady.nil
              go_simp
              (with_reducible refine (HS.out _ hB0).mono ?_)
              rintro e u1 ⟨rfl, hst⟩
              have hB1 := bst hB0 hB0.size hst
              clear hst
              go_simp
              refine hK _ _ ?_
              clear hK KK
              refine Reg.take_at (i := 9) (d := 73) (v := ?_) rfl rfl (by kernel_rfl) (by kernel_rfl) (by kernel_rfl) (fun _ _ _ h => h) (Or.inl ⟨by rfl, ?_⟩) ?_
              rotate_left 1
              · intro w; go_simp <;> with_reducible rfl
              simp only [Act.put, List.setIfInBounds_toArray, List.set_cons_zero, List.set_cons_succ]
              refine wpAny_done (by kernel_rfl) ?_ _
              go_wp2_with fail
              go_roundw
              case rel => exact ⟨k + 1, by omega, by go_num, hB1⟩
              case measure => simp [intOf]; omega
            · have b7 := bst b4 b4.size hb
              go_wp2_with fail
              go_ret
              exact ⟨rfl, b7⟩
        · go_wp2_with fail
          refine (awake_any w1).mono ?_
          rintro e w2 ⟨rfl, b2'⟩
          have b2 := bst b1 b1.size b2'
          clear b1 b2'
          go_wp2_with fail
          go_ret
          exact ⟨rfl, b2⟩
end Go.Proofs.Ytffbmabhlgfjkaa.FreeOfLaw
