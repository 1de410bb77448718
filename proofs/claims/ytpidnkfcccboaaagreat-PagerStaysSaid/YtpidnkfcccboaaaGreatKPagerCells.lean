/- FreeOf, FreeCells, FreeMid, PagerCells. -/
import Derived.Test.YtpidnkfcccboaaaGreatKFreeCheck
import Derived.Test.YtpidnkfcccboaaaGreatKFreePages
import Derived.Test.YtpidnkfcccboaaaGreatKPagerFind
namespace Go.Proofs.YtpidnkfcccboaaaGreat.FreeOf
open Go.RowKit Base FreePlain FreeMem FreeText FreeCellsOf FreePages FreeCheck

/-- a page's slice -/
abbrev Ps := Option Addr × Nat × List ByteArray
def psv (p : Ps) : Value := .slice p.1 p.2.2.length p.2.1
theorem str_h (q : ByteArray) (h : q.size = 8) : ∃ s : ByteArray, (∀ w : World, (Instr.slice 9 (.string q) none (some (.int .i64 4)) none).run Tryz.prog w = .ok (.string s) w) ∧ s.size = 4 ∧ s.data.toList = q.data.toList.take 4 := by
  refine ⟨q.extract 0 4, fun w => ?_, by simp [h], by simp⟩
  have h4 : (4 : Int) ≤ (q.size : Int) := by omega
  go_simp
theorem str_l (q : ByteArray) (h : q.size = 8) : ∃ s : ByteArray, (∀ w : World, (Instr.slice 9 (.string q) (some (.int .i64 4)) none none).run Tryz.prog w = .ok (.string s) w) ∧ s.size = 4 ∧ s.data.toList = q.data.toList.drop 4 := by
  refine ⟨q.extract 4 q.size, fun w => ?_, by simp [h], ?_⟩
  · have h4 : (4 : Int) ≤ (q.size : Int) := by omega
    go_simp
  · simp
    exact List.take_of_length_le (by rw [List.length_drop]; exact Nat.le_refl _)
/-- what Of comes to -/
def OfPost (W : World) (cs : Cs) (e : Ending) (w' : World) : Prop := Below W.heap.size W w' ∧
  ((∃ A m c l, e = .returned (.tuple #[.slice A m c, .int .i64 0]) ∧ m = l.length ∧ OwnF w' W.heap.size A c l ∧ Gd l ∧ PagesOf cs l) ∨
   (e = .returned (.tuple #[.slice none 0 0, .int .i64 60]) ∧ ∀ l, Gd l → ¬ PagesOf cs l))
def cellsP (ps : List Ps) : Cs := ps.map fun p => p.2.2
set_option maxRecDepth 100000 in
set_option maxHeartbeats 12800000 in
theorem of_any (W : World) (A : Option Addr) (n c : Nat) (ps : List Ps) (hn : n = ps.length) (hr : Row W W.heap.size A (ps.map psv)) (hp : ∀ p ∈ ps, Row W W.heap.size p.1 (strs p.2.2)) (hl : ps.length ≤ 100) (hl2 : ∀ p ∈ ps, p.2.2.length ≤ 100) :
    Calls Tryz.prog 70 #[.slice A n c] W (OfPost W (cellsP ps)) := by
  subst hn
  have HR := Lib.hid hr
  have HP := Lib.hid hp
  have HL2 := Lib.hid hl2
  clear hr hp hl2
  go_enter Tryz.func70, Tryz.ntmps70
  go_wp2_with fail
  go_loopw [4, 11] (fun v i wr => ∃ (k m : Nat) (A' : Option Addr) (c' : Nat), k ≤ ps.length ∧ m = (((cellsP ps).take k).flatten.map par).length ∧ v = .slice A' m c' ∧ i = .int .i64 k ∧ OwnF wr W.heap.size A' c' (((cellsP ps).take k).flatten.map par) ∧ (∀ j (_ : j < k) (h : j < ps.length), ((ps[j]).2.2.length = 23 ∨ (j + 1 = ps.length ∧ 0 < (ps[j]).2.2.length ∧ (ps[j]).2.2.length < 23)) ∧ ∀ q ∈ (ps[j]).2.2, q.size = 8) ∧ Below W.heap.size W wr) (fun _ i _ => ps.length - (intOf i).toNat)
  case atStart => exact ⟨0, 0, none, 0, by omega, by simp, rfl, rfl, by simpa using OwnF.nil W W.heap.size, by intro j h q; omega, Below.refl _ _⟩
  case round =>
    obtain ⟨k, m, A', c', hk, hm, rfl, rfl, hown, hpre, hb⟩ := hrel
    have HPRE := Lib.hid hpre
    have HM0 := Lib.hid hm
    have HOW := Lib.hid hown
    clear hpre hm hown
    by_cases hlt : k < ps.length
    · obtain ⟨ad, hA, hblk, hc⟩ := HR.out.get k (by simpa using hlt)
      subst hA
      have hc' := (hb.cell (p := ad.add k) (by rw [blk_add]; exact hblk)).trans hc
      clear hc
      have hrow0 := HP.out ps[k] (List.getElem_mem hlt)
      have hrow := (hrow0.below hb).more hb.size
      have hlk := HL2.out ps[k] (List.getElem_mem hlt)
      simp only [List.getElem_map, psv] at hc'
      have HFL := Lib.hid (show ∀ l, Gd l → PagesOf (cellsP ps) l → ((ps[k]).2.2.length = 23 ∨ (k + 1 = ps.length ∧ 0 < (ps[k]).2.2.length ∧ (ps[k]).2.2.length < 23)) from fun l _ h => by
        have := h.1 k (by simpa [cellsP] using hlt)
        simpa [cellsP] using this)
      have HEI := Lib.hid (show ∀ l, Gd l → PagesOf (cellsP ps) l → ∀ q ∈ (ps[k]).2.2, q.size = 8 from fun l _ h => eight h _ (by simp only [cellsP]; exact List.mem_map.2 ⟨_, List.getElem_mem hlt, rfl⟩))
      have HFT := Lib.hid (show (cellsP ps).take (k + 1) = (cellsP ps).take k ++ [(ps[k]).2.2] by
        rw [List.take_succ_eq_append_getElem (by simpa [cellsP] using hlt)]
        simp [cellsP])
      have HNX := Lib.hid (show ((ps[k]).2.2.length = 23 ∨ (k + 1 = ps.length ∧ 0 < (ps[k]).2.2.length ∧ (ps[k]).2.2.length < 23)) → (∀ q ∈ (ps[k]).2.2, q.size = 8) → ∀ j (_ : j < k + 1) (h : j < ps.length), ((ps[j]).2.2.length = 23 ∨ (j + 1 = ps.length ∧ 0 < (ps[j]).2.2.length ∧ (ps[j]).2.2.length < 23)) ∧ ∀ q ∈ (ps[j]).2.2, q.size = 8 from fun h1 h2 j hj h => by
        rcases Nat.lt_or_ge j k with q | q
        · exact HPRE.out j q h
        · obtain rfl : j = k := by omega
          exact ⟨h1, h2⟩)
      have HFB := Lib.hid (show (((cellsP ps).take k).flatten.map par).length ≤ 10000 by
        rw [List.length_map, List.length_flatten]
        have : (((cellsP ps).take k).map List.length).sum ≤ 100 * (((cellsP ps).take k).map List.length).length := by
          generalize hz : ((cellsP ps).take k).map List.length = zs
          have hzs : ∀ z ∈ zs, z ≤ 100 := fun z hz' => by
            rw [← hz] at hz'
            obtain ⟨c, hc, rfl⟩ := List.mem_map.1 hz'
            obtain ⟨p, hp, rfl⟩ := List.mem_map.1 (List.mem_of_mem_take hc)
            exact HL2.out p hp
          clear hz
          induction zs with
          | nil => simp
          | cons z zs ih =>
            have h1 := hzs z (by simp)
            have h2 := ih fun y hy => hzs y (by simp [hy])
            simp; omega
        rw [List.length_map, List.length_take] at this
        omega)
      generalize (ps[k]).2.2 = lk at *
      generalize (ps[k]).2.1 = ck at *
      generalize (ps[k]).1 = Ak at *
      by_cases hfill : lk.length = 23 ∨ (k + 1 = ps.length ∧ 0 < lk.length ∧ lk.length < 23)
      · have HFI := Lib.hid hfill
        have hcall := filled_any wr lk.length ((k : Int) == (ps.length : Int) - 1) true (by
          simp only [true_iff, beq_iff_eq]
          rcases hfill with h | ⟨h1, h2, h3⟩
          · exact .inl h
          · exact .inr ⟨by omega, h2, h3⟩)
        clear hfill
        by_cases hbad : ∃ q ∈ lk, q.size ≠ 8
        · have HB := Lib.hid hbad
          have hcall2 := containsS_any wr Ak lk.length ck lk true rfl hrow (by omega) (iff_of_true rfl hbad)
          clear hbad
          go_wp2_with (first | (go_at_call 97; (with_reducible refine hcall.mono ?_); rintro e w9 ⟨rfl, hw9⟩; subst w9) | (go_at_call 98; (with_reducible refine hcall2.mono ?_); rintro e w9 ⟨rfl, hw9⟩; subst w9))
          go_ret2
          refine ⟨hb, .inr ⟨rfl, fun l hg h => ?_⟩⟩
          obtain ⟨q, hq, h8⟩ := HB.out
          exact h8 (HEI.out l hg h q hq)
        · have HB := Lib.hid (show ∀ q ∈ lk, q.size = 8 from fun q hq => Decidable.byContradiction fun h => hbad ⟨q, hq, h⟩)
          have hcall2 := containsS_any wr Ak lk.length ck lk false rfl hrow (by omega) (iff_of_false (by decide) hbad)
          have HROW := Lib.hid hrow0
          clear hbad hrow hrow0
          go_wp2_with (first | (go_at_call 97; (with_reducible refine hcall.mono ?_); rintro e w9 ⟨rfl, hw9⟩; subst w9) | (go_at_call 98; (with_reducible refine hcall2.mono ?_); rintro e w9 ⟨rfl, hw9⟩; subst w9))
          clear hcall hcall2 hc'
          go_loopw [4, 31] (fun v i wr => ∃ (j m : Nat) (A' : Option Addr) (c' : Nat), j ≤ lk.length ∧ m = ((((cellsP ps).take k).flatten ++ lk.take j).map par).length ∧ v = .slice A' m c' ∧ i = .int .i64 j ∧ OwnF wr W.heap.size A' c' ((((cellsP ps).take k).flatten ++ lk.take j).map par) ∧ Below W.heap.size W wr) (fun _ i _ => lk.length - (intOf i).toNat)
          case atStart => exact ⟨0, m, A', c', by omega, by simpa using HM0.out, rfl, rfl, by simpa using HOW.out, hb⟩
          case round =>
            clear hb HOW HM0
            obtain ⟨j, m, A', c', hj, hm, rfl, rfl, hown, hb2⟩ := hrel
            have HM := Lib.hid hm
            have HML := Lib.hid (show m ≤ 20000 by
              have h1 := HFB.out
              rw [hm]
              rw [List.length_map] at h1 ⊢
              rw [List.length_append, List.length_take]
              omega)
            clear hm
            by_cases hjl : j < lk.length
            · obtain ⟨bd, hA, hbb, hcj⟩ := strs_get HROW.out j hjl
              subst hA
              have hcj' := (hb2.cell (p := bd.add j) (by rw [blk_add]; exact hbb)).trans hcj
              clear hcj
              have h8 := HB.out _ (List.getElem_mem hjl)
              have HT := Lib.hid (show ((((cellsP ps).take k).flatten ++ lk.take (j + 1)).map par) = ((((cellsP ps).take k).flatten ++ lk.take j).map par) ++ [par lk[j]] by
                rw [List.take_succ_eq_append_getElem hjl, ← List.append_assoc, List.map_append]
                rfl)
              obtain ⟨s1, hst1, hs1, hd1⟩ := str_h lk[j] h8
              obtain ⟨s2, hst2, hs2, hd2⟩ := str_l lk[j] h8
              have HSL := Lib.hid (And.intro hst1 hst2)
              have hpar : par lk[j] = (((nb s1.data.toList : Nat) : Int), ((nb s2.data.toList : Nat) : Int)) := by unfold par; rw [hd1, hd2]
              rw [hpar] at HT
              have HN1 := Lib.hid (fun w : World => number_any w s1 hs1)
              have HN2 := Lib.hid (fun w : World => number_any w s2 hs2)
              clear hst1 hst2 hd1 hd2 hpar
              generalize lk[j] = q at *
              generalize ((((cellsP ps).take k).flatten ++ lk.take j).map par) = acc at *
              generalize hx1 : nb s1.data.toList = x1 at *
              generalize hx2 : nb s2.data.toList = x2 at *
              clear hx1 hx2
              go_wp2_with fail
              clear hcj'
              refine wp_region_any (by kernel_rfl) ?_
              change wpAny _ _ _ _ _ _ _ (World.drew _)
              obtain ⟨u0, hu0⟩ : ∃ v, v = World.drew wr := ⟨_, rfl⟩
              rw [← hu0]
              have hB0 : Below W.heap.size W u0 := by rw [hu0]; exact hb2.drew
              have hown : OwnF u0 W.heap.size A' c' acc := by rw [hu0]; exact hown
              clear hu0 hb2
              refine Reg.take_at (i := 0) (d := 35) (v := ?_) rfl rfl (by kernel_rfl) (by kernel_rfl) (by kernel_rfl) (fun _ _ _ h => h) (Or.inl ⟨by rfl, ?_⟩) ?_
              rotate_left 1
              · intro w; go_simp <;> with_reducible rfl
              simp only [Act.put, List.setIfInBounds_toArray, List.set_cons_zero, List.set_cons_succ]
              refine Reg.take_at (i := 1) (d := 36) (v := ?_) rfl rfl (by kernel_rfl) (by kernel_rfl) (by kernel_rfl) (fun _ _ _ h => h) (Or.inl ⟨by rfl, ?_⟩) ?_
              rotate_left 1
              · intro w; go_simp <;> with_reducible rfl
              simp only [Act.put, List.setIfInBounds_toArray, List.set_cons_zero, List.set_cons_succ]
              refine Reg.take_at (i := 4) (d := 39) (v := ?_) rfl rfl (by kernel_rfl) (by kernel_rfl) (by kernel_rfl) (fun _ _ _ h => h) (Or.inl ⟨by rfl, ?_⟩) ?_
              rotate_left 1
              · intro w; go_simp <;> with_reducible rfl
              simp only [Act.put, List.setIfInBounds_toArray, List.set_cons_zero, List.set_cons_succ]
              refine wpAny_ready (rs := [2, 5]) (by decide +kernel) (by simp) ?_
              refine AllReady.cons rfl (fun KK hK => ?_) ?_
              · obtain ⟨hq1, hq2⟩ := HSL.out
                go_simp
                refine hK _ _ ?_
                clear hK KK hq1 hq2
                refine wpAny_ready (rs := [3, 5]) (by decide +kernel) (by simp) ?_
                refine AllReady.cons rfl (fun KK hK => ?_) ?_
                · go_simp
                  (with_reducible refine (HN1.out u0).mono ?_)
                  rintro e w9 ⟨rfl, hw9⟩
                  subst w9
                  go_simp
                  refine hK _ _ ?_
                  clear hK KK
                  refine wpAny_ready (rs := [5]) (by decide +kernel) (by simp) ?_
                  refine AllReady.cons rfl (fun KK hK => ?_) AllReady.nil
                  obtain ⟨hq1, hq2⟩ := HSL.out
                  go_simp
                  refine hK _ _ ?_
                  clear hK KK hq1 hq2
                  refine wpAny_ready (rs := [6]) (by decide +kernel) (by simp) ?_
                  refine AllReady.cons rfl (fun KK hK => ?_) AllReady.nil
                  go_simp
                  (with_reducible refine (HN2.out u0).mono ?_)
                  rintro e w9 ⟨rfl, hw9⟩
                  subst w9
                  go_simp
                  refine hK _ _ ?_
                  clear hK KK
                  refine Reg.take_at (i := 7) (d := 42) (v := ?_) rfl rfl (by kernel_rfl) (by kernel_rfl) (by kernel_rfl) (fun _ _ _ h => h) (Or.inl ⟨by rfl, ?_⟩) ?_
                  rotate_left 1
                  · intro w; go_simp <;> with_reducible rfl
                  simp only [Act.put, List.setIfInBounds_toArray, List.set_cons_zero, List.set_cons_succ]
                  refine wpAny_ready (rs := [8]) (by decide +kernel) (by simp) ?_
                  refine AllReady.cons rfl (fun KK hK => ?_) AllReady.nil
                  go_simp
                  refine hK _ _ ?_
                  clear hK KK
                  obtain ⟨u1, hw⟩ : ∃ v, v = u0.alloc (.cells #[.int .i64 (x1 : Int), .int .i64 (x2 : Int)] 66) := ⟨_, rfl⟩
                  rw [← hw]
                  have hst : Below u0.heap.size u0 u1 := by rw [hw]; exact al _ _
                  have hB1 := bstep hB0 hB0.size hst
                  have hown := hown.later hst
                  have hr1 : Row u1 u1.heap.size (some ⟨u0.heap.size, 0, none⟩) (fr [((x1 : Int), (x2 : Int))]) := by rw [hw]; exact row_item _ (_, _)
                  clear hw hst
                  refine wpAny_ready (rs := [9]) (by decide +kernel) (by simp) ?_
                  refine AllReady.cons rfl (fun KK hK => ?_) AllReady.nil
                  have hbs := hB1.size
                  obtain ⟨A2, c2, u2, hrun, hown2, hg⟩ := run_append_f hown (n := m) (m := 1) (k := m + 1) (c2 := 1) (news := [((x1 : Int), (x2 : Int))]) HM.out rfl rfl hr1 (by have := HML.out; omega) hbs
                  have hB2 : Below W.heap.size W u2 := hown.below hB1 (by rw [← HM.out]; exact hg) (Nat.le_refl _) hbs
                  refine step_append_d (d := 44) rfl rfl (.tmp 35) (.tmp 43) 31 31 rfl (vs := .slice A' m c') (vx := .slice (some ⟨u0.heap.size, 0, none⟩) 1 1) (by simp [Act.eval]) (by simp [Act.eval]) hrun ?_
                  refine hK _ _ ?_
                  clear hK KK hrun
                  simp only [Act.put, List.setIfInBounds_toArray, List.set_cons_zero, List.set_cons_succ]
                  refine Reg.take_at (i := 10) (d := 4) (v := ?_) rfl rfl (by kernel_rfl) (by kernel_rfl) (by kernel_rfl) (fun _ _ _ h => h) (Or.inl ⟨by rfl, ?_⟩) ?_
                  rotate_left 1
                  · intro w; go_simp <;> with_reducible rfl
                  simp only [Act.put, List.setIfInBounds_toArray, List.set_cons_zero, List.set_cons_succ]
                  refine wpAny_done (by kernel_rfl) ?_ _
                  go_wp2_with fail
                  go_roundw
                  case rel => exact ⟨j + 1, m + 1, A2, c2, by omega, by rw [HT.out, List.length_append, ← HM.out]; rfl, rfl, by go_num, by rw [HT.out]; exact hown2, hB2⟩
                  case measure => simp [intOf]; omega
                refine AllReady.cons rfl (fun KK hK => ?_) AllReady.nil
                obtain ⟨hq1, hq2⟩ := HSL.out
                go_simp
                refine hK _ _ ?_
                clear hK KK hq1 hq2
                refine wpAny_ready (rs := [3]) (by decide +kernel) (by simp) ?_
                refine AllReady.cons rfl (fun KK hK => ?_) AllReady.nil
                go_simp
                (with_reducible refine (HN1.out u0).mono ?_)
                rintro e w9 ⟨rfl, hw9⟩
                subst w9
                go_simp
                refine hK _ _ ?_
                clear hK KK
                refine wpAny_ready (rs := [6]) (by decide +kernel) (by simp) ?_
                refine AllReady.cons rfl (fun KK hK => ?_) AllReady.nil
                go_simp
                (with_reducible refine (HN2.out u0).mono ?_)
                rintro e w9 ⟨rfl, hw9⟩
                subst w9
                go_simp
                refine hK _ _ ?_
                clear hK KK
                refine Reg.take_at (i := 7) (d := 42) (v := ?_) rfl rfl (by kernel_rfl) (by kernel_rfl) (by kernel_rfl) (fun _ _ _ h => h) (Or.inl ⟨by rfl, ?_⟩) ?_
                rotate_left 1
                · intro w; go_simp <;> with_reducible rfl
                simp only [Act.put, List.setIfInBounds_toArray, List.set_cons_zero, List.set_cons_succ]
                refine wpAny_ready (rs := [8]) (by decide +kernel) (by simp) ?_
                refine AllReady.cons rfl (fun KK hK => ?_) AllReady.nil
                go_simp
                refine hK _ _ ?_
                clear hK KK
                obtain ⟨u1, hw⟩ : ∃ v, v = u0.alloc (.cells #[.int .i64 (x1 : Int), .int .i64 (x2 : Int)] 66) := ⟨_, rfl⟩
                rw [← hw]
                have hst : Below u0.heap.size u0 u1 := by rw [hw]; exact al _ _
                have hB1 := bstep hB0 hB0.size hst
                have hown := hown.later hst
                have hr1 : Row u1 u1.heap.size (some ⟨u0.heap.size, 0, none⟩) (fr [((x1 : Int), (x2 : Int))]) := by rw [hw]; exact row_item _ (_, _)
                clear hw hst
                refine wpAny_ready (rs := [9]) (by decide +kernel) (by simp) ?_
                refine AllReady.cons rfl (fun KK hK => ?_) AllReady.nil
                have hbs := hB1.size
                obtain ⟨A2, c2, u2, hrun, hown2, hg⟩ := run_append_f hown (n := m) (m := 1) (k := m + 1) (c2 := 1) (news := [((x1 : Int), (x2 : Int))]) HM.out rfl rfl hr1 (by have := HML.out; omega) hbs
                have hB2 : Below W.heap.size W u2 := hown.below hB1 (by rw [← HM.out]; exact hg) (Nat.le_refl _) hbs
                refine step_append_d (d := 44) rfl rfl (.tmp 35) (.tmp 43) 31 31 rfl (vs := .slice A' m c') (vx := .slice (some ⟨u0.heap.size, 0, none⟩) 1 1) (by simp [Act.eval]) (by simp [Act.eval]) hrun ?_
                refine hK _ _ ?_
                clear hK KK hrun
                simp only [Act.put, List.setIfInBounds_toArray, List.set_cons_zero, List.set_cons_succ]
                refine Reg.take_at (i := 10) (d := 4) (v := ?_) rfl rfl (by kernel_rfl) (by kernel_rfl) (by kernel_rfl) (fun _ _ _ h => h) (Or.inl ⟨by rfl, ?_⟩) ?_
                rotate_left 1
                · intro w; go_simp <;> with_reducible rfl
                simp only [Act.put, List.setIfInBounds_toArray, List.set_cons_zero, List.set_cons_succ]
                refine wpAny_done (by kernel_rfl) ?_ _
                go_wp2_with fail
                go_roundw
                case rel => exact ⟨j + 1, m + 1, A2, c2, by omega, by rw [HT.out, List.length_append, ← HM.out]; rfl, rfl, by go_num, by rw [HT.out]; exact hown2, hB2⟩
                case measure => simp [intOf]; omega
              refine AllReady.cons rfl (fun KK hK => ?_) AllReady.nil
              obtain ⟨hq1, hq2⟩ := HSL.out
              go_simp
              refine hK _ _ ?_
              clear hK KK hq1 hq2
              refine wpAny_ready (rs := [2]) (by decide +kernel) (by simp) ?_
              refine AllReady.cons rfl (fun KK hK => ?_) AllReady.nil
              obtain ⟨hq1, hq2⟩ := HSL.out
              go_simp
              refine hK _ _ ?_
              clear hK KK hq1 hq2
              refine wpAny_ready (rs := [3]) (by decide +kernel) (by simp) ?_
              refine AllReady.cons rfl (fun KK hK => ?_) AllReady.nil
              go_simp
              (with_reducible refine (HN1.out u0).mono ?_)
              rintro e w9 ⟨rfl, hw9⟩
              subst w9
              go_simp
              refine hK _ _ ?_
              clear hK KK
              refine wpAny_ready (rs := [6]) (by decide +kernel) (by simp) ?_
              refine AllReady.cons rfl (fun KK hK => ?_) AllReady.nil
              go_simp
              (with_reducible refine (HN2.out u0).mono ?_)
              rintro e w9 ⟨rfl, hw9⟩
              subst w9
              go_simp
              refine hK _ _ ?_
              clear hK KK
              refine Reg.take_at (i := 7) (d := 42) (v := ?_) rfl rfl (by kernel_rfl) (by kernel_rfl) (by kernel_rfl) (fun _ _ _ h => h) (Or.inl ⟨by rfl, ?_⟩) ?_
              rotate_left 1
              · intro w; go_simp <;> with_reducible rfl
              simp only [Act.put, List.setIfInBounds_toArray, List.set_cons_zero, List.set_cons_succ]
              refine wpAny_ready (rs := [8]) (by decide +kernel) (by simp) ?_
              refine AllReady.cons rfl (fun KK hK => ?_) AllReady.nil
              go_simp
              refine hK _ _ ?_
              clear hK KK
              obtain ⟨u1, hw⟩ : ∃ v, v = u0.alloc (.cells #[.int .i64 (x1 : Int), .int .i64 (x2 : Int)] 66) := ⟨_, rfl⟩
              rw [← hw]
              have hst : Below u0.heap.size u0 u1 := by rw [hw]; exact al _ _
              have hB1 := bstep hB0 hB0.size hst
              have hown := hown.later hst
              have hr1 : Row u1 u1.heap.size (some ⟨u0.heap.size, 0, none⟩) (fr [((x1 : Int), (x2 : Int))]) := by rw [hw]; exact row_item _ (_, _)
              clear hw hst
              refine wpAny_ready (rs := [9]) (by decide +kernel) (by simp) ?_
              refine AllReady.cons rfl (fun KK hK => ?_) AllReady.nil
              have hbs := hB1.size
              obtain ⟨A2, c2, u2, hrun, hown2, hg⟩ := run_append_f hown (n := m) (m := 1) (k := m + 1) (c2 := 1) (news := [((x1 : Int), (x2 : Int))]) HM.out rfl rfl hr1 (by have := HML.out; omega) hbs
              have hB2 : Below W.heap.size W u2 := hown.below hB1 (by rw [← HM.out]; exact hg) (Nat.le_refl _) hbs
              refine step_append_d (d := 44) rfl rfl (.tmp 35) (.tmp 43) 31 31 rfl (vs := .slice A' m c') (vx := .slice (some ⟨u0.heap.size, 0, none⟩) 1 1) (by simp [Act.eval]) (by simp [Act.eval]) hrun ?_
              refine hK _ _ ?_
              clear hK KK hrun
              simp only [Act.put, List.setIfInBounds_toArray, List.set_cons_zero, List.set_cons_succ]
              refine Reg.take_at (i := 10) (d := 4) (v := ?_) rfl rfl (by kernel_rfl) (by kernel_rfl) (by kernel_rfl) (fun _ _ _ h => h) (Or.inl ⟨by rfl, ?_⟩) ?_
              rotate_left 1
              · intro w; go_simp <;> with_reducible rfl
              simp only [Act.put, List.setIfInBounds_toArray, List.set_cons_zero, List.set_cons_succ]
              refine wpAny_done (by kernel_rfl) ?_ _
              go_wp2_with fail
              go_roundw
              case rel => exact ⟨j + 1, m + 1, A2, c2, by omega, by rw [HT.out, List.length_append, ← HM.out]; rfl, rfl, by go_num, by rw [HT.out]; exact hown2, hB2⟩
              case measure => simp [intOf]; omega
            · obtain rfl : j = lk.length := by omega
              have HE := Lib.hid (show (((cellsP ps).take (k + 1)).flatten.map par) = ((((cellsP ps).take k).flatten ++ lk.take lk.length).map par) by rw [HFT.out, List.take_length]; simp)
              have HNX2 := Lib.hid (HNX.out HFI.out HB.out)
              go_wp2_with fail
              go_roundw
              case rel => exact ⟨k + 1, m, A', c', by omega, by rw [HE.out]; exact HM.out, rfl, by go_num, by rw [HE.out]; exact hown, HNX2.out, hb2⟩
              case measure => simp [intOf]; omega
      · have HFI := Lib.hid hfill
        have hcall := filled_any wr lk.length ((k : Int) == (ps.length : Int) - 1) false (by
          refine iff_of_false (by decide) fun h => hfill ?_
          simp only [beq_iff_eq] at h
          rcases h with h | ⟨h1, h2, h3⟩
          · exact .inl h
          · exact .inr ⟨by omega, h2, h3⟩)
        clear hfill
        go_wp2_with (go_at_call 97; (with_reducible refine hcall.mono ?_); rintro e w9 ⟨rfl, hw9⟩; subst w9)
        go_ret2
        exact ⟨hb, .inr ⟨rfl, fun l hg h => HFI.out (HFL.out l hg h)⟩⟩
    · obtain rfl : k = ps.length := by omega
      have HE := Lib.hid (show (cellsP ps).take ps.length = cellsP ps by rw [List.take_of_length_le (by simp [cellsP])])
      have HM1 := HM0.out
      have HOW1 := HOW.out
      rw [HE.out] at HM1 HOW1
      have HEI := Lib.hid (show ∀ q ∈ (cellsP ps).flatten, q.size = 8 from fun q hq => by
        obtain ⟨cc, hcc, hq⟩ := List.mem_flatten.1 hq
        obtain ⟨p, hp, rfl⟩ := List.mem_map.1 hcc
        obtain ⟨i, hi, rfl⟩ := List.mem_iff_getElem.1 hp
        exact (HPRE.out i hi hi).2 q hq)
      have HSH := Lib.hid (show Shape (cellsP ps) from fun i hi => by
        have h1 : i < ps.length := by simpa [cellsP] using hi
        have := (HPRE.out i h1 h1).1
        simpa [cellsP] using this)
      have HLN := Lib.hid (show ((cellsP ps).flatten.map par).length ≤ 10000 by
        rw [List.length_map, List.length_flatten]
        have : ((cellsP ps).map List.length).sum ≤ 100 * ((cellsP ps).map List.length).length := by
          generalize hz : (cellsP ps).map List.length = zs
          have hzs : ∀ z ∈ zs, z ≤ 100 := fun z hz' => by
            rw [← hz] at hz'
            obtain ⟨c, hc, rfl⟩ := List.mem_map.1 hz'
            obtain ⟨p, hp, rfl⟩ := List.mem_map.1 hc
            exact HL2.out p hp
          clear hz
          induction zs with
          | nil => simp
          | cons z zs ih =>
            have h1 := hzs z (by simp)
            have h2 := ih fun y hy => hzs y (by simp [hy])
            simp; omega
        simp [cellsP] at this ⊢
        omega)
      have HPT := Lib.hid (texts_par HEI.out)
      have HUN := Lib.hid (show ∀ l, Gd l → PagesOf (cellsP ps) l → (cellsP ps).flatten.map par = l from fun l hg h => by rw [h.2]; exact par_texts hg.1)
      clear HE HM0 HOW
      generalize (cellsP ps).flatten.map par = acc at *
      subst HM1
      by_cases hg : Gd acc
      · have HG := Lib.hid hg
        have hcall := check_any wr A' acc.length c' acc true rfl HOW1.row (by have := HLN.out; omega) (iff_of_true rfl hg)
        clear hg
        go_wp2_with (go_at_call 101; (with_reducible refine hcall.mono ?_); rintro e w9 ⟨rfl, hb9⟩)
        go_ret2
        exact ⟨bstep hb hb.size hb9, .inl ⟨_, _, _, acc, rfl, rfl, HOW1.later hb9, HG.out, HSH.out, HPT.out.symm⟩⟩
      · have HG := Lib.hid hg
        have hcall := check_any wr A' acc.length c' acc false rfl HOW1.row (by have := HLN.out; omega) (iff_of_false (by decide) hg)
        clear hg
        go_wp2_with (go_at_call 101; (with_reducible refine hcall.mono ?_); rintro e w9 ⟨rfl, hb9⟩)
        go_ret2
        exact ⟨bstep hb hb.size hb9, .inr ⟨rfl, fun l hl h => HG.out (by rw [HUN.out l hl h]; exact hl)⟩⟩
end Go.Proofs.YtpidnkfcccboaaaGreat.FreeOf
namespace Go.Proofs.YtpidnkfcccboaaaGreat.FreeCells
open Go.RowKit Base FreePlain FreeMem FreeText FreeCellsOf FreePages FreeCheck FreeSl FreeOf

/-- a row of texts, in a block of texts -/
def RowS (w : World) (A : Option Addr) (cs : List ByteArray) : Prop := ∀ k v, (strs cs)[k]? = some v → ∃ ad cur, A = some ad ∧ w.heap[ad.block]? = some (.cells cur 9 (0, 0)) ∧ w.cell? (ad.add k) = some v
theorem lt_of_some {w : World} {b : Nat} {o : Obj} (h : w.heap[b]? = some o) : b < w.heap.size := by
 rcases Nat.lt_or_ge b w.heap.size with q | q
 ·exact q
 ·rw [Array.getElem?_eq_none q] at h; cases h
section
variable {w w' : World} {A : Option Addr} {cs : List ByteArray}
theorem RowS.nil (w : World) (A : Option Addr) : RowS w A [] := fun k v h => by simp [strs] at h
theorem RowS.row (h : RowS w A cs) : Row w w.heap.size A (strs cs) := fun k v hv => by
 obtain ⟨ad, cur, e, hb, hc⟩ := h k v hv
 exact ⟨ad, e, lt_of_some hb, hc⟩
theorem RowS.ofOwn {base c : Nat} (h : Own w base 9 A c (strs cs)) : RowS w A cs := fun k v hv => by
 have hr := h.row k v hv
 obtain ⟨ad, e, _, hc⟩ := hr
 subst e
 rcases h.2 with ⟨h1, h2⟩ | ⟨g, cap, cur, h1, _, h2, _⟩
 ·injection h1 with h1; cases h1
 ·injection h1 with h1
  injection h1 with h1
  subst h1
  exact ⟨_, cur, rfl, h2, hc⟩
theorem RowS.keep (h : RowS w A cs) (hk : ∀ (g : Nat) (cur : Array Value), w.heap[g]? = some (Obj.cells cur 9 (0, 0)) → w'.heap[g]? = w.heap[g]?) : RowS w' A cs := fun k v hv => by
 obtain ⟨ad, cur, e, hb, hc⟩ := h k v hv
 have hbb := hk _ _ hb
 refine ⟨ad, cur, e, hbb.trans hb, ?_⟩
 have e2 : w'.cell? (ad.add k) = w.cell? (ad.add k) := by
  simp only [World.cell?, blk_add, hbb]
 exact e2.trans hc
theorem RowS.below (h : RowS w A cs) (hb : Below w.heap.size w w') : RowS w' A cs := h.keep fun _ _ hg => hb.block _ (lt_of_some hg)
/-- what the outer row's growing leaves -/
theorem RowS.outer (h : RowS w A cs) {base c : Nat} {Ao : Option Addr} {xs : List Value} (hown : Own w base 37 Ao c xs) (hg : w.grownBy w' (Value.slice Ao xs.length c).ownBlock) : RowS w' A cs := h.keep fun g cur hgb => by
 refine hg.block g (lt_of_some hgb) fun e => ?_
 rcases hown.2 with ⟨h1, h2⟩ | ⟨g', cap, cur', h1, _, h2, _⟩
 ·rw [h1] at e; cases e
 ·rw [h1] at e
  simp only [Value.ownBlock, Option.some.injEq] at e
  subst e
  rw [h2] at hgb
  injection hgb with hgb
  injection hgb with _ q
  exact absurd q (by decide)
end
theorem el_ss : Elem Tryz.prog 119 37 24 := elem_mk (z := .slice none 0 0) Tryz.underlying119 (by kernel_rfl) rfl
/-- pages of cells, in rows of the call's own -/
def OutS (lo : Nat) (cs : Cs) (A : Option Addr) (c : Nat) (w : World) : Prop := ∃ ps : List Ps, cs = cellsP ps ∧ Own w lo 37 A c (ps.map psv) ∧ ∀ p ∈ ps, RowS w p.1 p.2.2
theorem OutS.below {lo c : Nat} {cs : Cs} {A : Option Addr} {w w' : World} (h : OutS lo cs A c w) (hb : Below w.heap.size w w') : OutS lo cs A c w' := by
 obtain ⟨ps, e, ho, hr⟩ := h
 exact ⟨ps, e, ho.later hb, fun p hp => (hr p hp).below hb⟩
theorem psv_one (ps : List Ps) : ∀ u ∈ ps.map psv, u.oneCell' = true := fun u hu => by
 obtain ⟨p, _, rfl⟩ := List.mem_map.1 hu
 rfl
/-! as plain data -/
theorem texts_append (a b : Fs) : texts (a ++ b) = texts a ++ texts b := by simp [texts]
def chunks (k : Nat) (l : Fs) : Cs := (List.range k).map fun i => texts ((l.drop (i * 23)).take 23)
theorem chunks_len (k : Nat) (l : Fs) : (chunks k l).length = k := by simp [chunks]
theorem chunks_succ (k : Nat) (l : Fs) : chunks (k + 1) l = chunks k l ++ [texts ((l.drop (k * 23)).take 23)] := by simp [chunks, List.range_succ]
theorem chunks_flat (l : Fs) : ∀ k, (chunks k l).flatten = texts (l.take (k * 23))
 | 0 => by simp [chunks, texts]
 | k + 1 => by
  rw [chunks_succ, List.flatten_append, chunks_flat l k, show (k + 1) * 23 = k * 23 + 23 by omega, List.take_add, texts_append]
  simp
theorem chunks_pages {l : Fs} {k : Nat} (hk : k = (l.length + 22) / 23) : PagesOf (chunks k l) l := by
 refine ⟨fun i hi => ?_, ?_⟩
 ·rw [chunks_len] at hi
  have e : ((chunks k l)[i]'(by rw [chunks_len]; exact hi)).length = min 23 (l.length - i * 23) := by
   simp [chunks, texts_len]
  rw [e, chunks_len]
  omega
 ·rw [chunks_flat, List.take_of_length_le (by omega)]
set_option maxRecDepth 100000 in
theorem pagesFor_any (W : World) (n : Nat) (h : n ≤ 100000) : Calls Tryz.prog 114 #[.int .i64 (n : Int)] W fun e w' => e = .returned (.int .i64 (((n + 22) / 23 : Nat) : Int)) ∧ w' = W := by
 obtain ⟨m, hm⟩ : ∃ m : Nat, ((n : Int) + 23 - 1) / 23 = (m : Int) ∧ m = (n + 22) / 23 := ⟨_, by omega, rfl⟩
 rw [← hm.2]
 have h1 := hm.1
 have H2 := Lib.hid hm.2
 clear hm
 go_enter Tryz.func114, Tryz.ntmps114
 go_wp2
 go_ret
 exact ⟨by simp [h1], rfl⟩
set_option maxRecDepth 100000 in
set_option maxHeartbeats 3200000 in
theorem cells_any (W : World) (A : Option Addr) (n c : Nat) (l : Fs) (hn : n = l.length) (hc : l.length ≤ c) (hr : Row W W.heap.size A (fr l)) (hl : l.length ≤ 1000) :
  Calls Tryz.prog 88 #[.slice A n c] W fun e w' => Below W.heap.size W w' ∧ ((Gd l ∧ ∃ A' m c' cs, e = .returned (.tuple #[.slice A' m c', .int .i64 0]) ∧ m = cs.length ∧ OutS W.heap.size cs A' c' w' ∧ PagesOf cs l) ∨ (¬ Gd l ∧ e = .returned (.tuple #[.slice none 0 0, .int .i64 60]))) := by
 subst hn
 have HR := Lib.hid hr
 have HC := Lib.hid hc
 clear hc
 by_cases hg : Gd l
 ·have hcall := check_any W A l.length c l true rfl hr (by omega) (iff_of_true rfl hg)
  have HG := Lib.hid hg
  have HF := Lib.hid hg.1
  have hpf := fun w => pagesFor_any w l.length (by omega)
  have hN : (l.length + 22) / 23 ≤ 100 := by omega
  have HN := Lib.hid (show ∀ k, k < (l.length + 22) / 23 → k * 23 < l.length by intro k hk; omega)
  have HPG := Lib.hid (show PagesOf (chunks ((l.length + 22) / 23) l) l from chunks_pages rfl)
  generalize (l.length + 22) / 23 = N at *
  clear hg hr
  go_enter Tryz.func88, Tryz.ntmps88
  go_wp2_with (first | (go_at_call 101; (with_reducible refine hcall.mono ?_); rintro e w1 ⟨rfl, hb1⟩) | (go_at_call 114; (with_reducible refine (hpf _).mono ?_); rintro e w2 ⟨rfl, hw2⟩; subst w2))
  clear hcall hpf
  go_loopw [4, 13] (fun v i wr => ∃ (k : Nat) (A' : Option Addr) (c' : Nat), k ≤ N ∧ v = .slice A' k c' ∧ i = .int .i64 k ∧ OutS W.heap.size (chunks k l) A' c' wr ∧ Below W.heap.size W wr) (fun _ i _ => N - (intOf i).toNat)
  case atStart => exact ⟨0, none, 0, by omega, rfl, rfl, ⟨[], rfl, Own.nil _ _ _, by simp⟩, hb1⟩
  case round =>
   clear hb1
   obtain ⟨k, A', c', hk, rfl, rfl, hout, hb⟩ := hrel
   by_cases hlt : k < N
   ·have hkl := HN.out k hlt
    have hc2 : (c = k * 23) = False := by have := HC.out; simp; omega
    have hrow : Row wr wr.heap.size (Option.map (fun x => x.add (k * 23 * 2)) A) (fr ((l.drop (k * 23)).take 23)) := by
     have h := row_cut (i := k * 23) (k := 23) (HR.out.belowSize hb) HC.out
     rw [if_neg (by have := HC.out; omega)] at h
     exact h
    have hlen : ((l.drop (k * 23)).take 23).length = min 23 (l.length - k * 23) := by rw [List.length_take, List.length_drop]
    have hfit : ∀ p ∈ (l.drop (k * 23)).take 23, Fit p := fun p hp => HF.out p (List.mem_of_mem_drop (List.mem_of_mem_take hp))
    have HSC := Lib.hid (chunks_succ k l)
    have HCL := Lib.hid (chunks_len k l)
    generalize (l.drop (k * 23)).take 23 = lc at *
    have hstep : ∀ (w2 w3 : World) (A2 : Option Addr) (m2 c2 : Nat), Below wr.heap.size wr w2 → m2 = lc.length → Own w2 wr.heap.size 9 A2 c2 (strs (texts lc)) → ∃ A3 c3 w3, (Builtin.append_ #[119, 119] 119 #[.slice A' k c', .slice (some ⟨w2.heap.size, 0, none⟩) 1 1]).run Tryz.prog (w2.alloc (.cells #[.slice A2 m2 c2] 37)) = .ok (.slice A3 (k + 1) c3) w3 ∧ OutS W.heap.size (chunks (k + 1) l) A3 c3 w3 ∧ Below W.heap.size W w3 := by
     intro w2 _ A2 m2 c2 hb2 hm2 hown2
     obtain ⟨ps, e, ho, hrs⟩ := hout
     have hpl : (ps.map psv).length = k := by rw [List.length_map]; have h1 := HCL.out; rw [e] at h1; simpa [cellsP] using h1
     have ho2 := (ho.later hb2).alloc (.cells #[.slice A2 m2 c2] 37)
     have hbw := bstep hb hb.size hb2
     have hbw2 := bstep hbw hbw.size (al w2 (.cells #[.slice A2 m2 c2] 37))
     obtain ⟨A3, c3, w3, hrun, ho3, hg⟩ := run_append_row (P := Tryz.prog) 119 el_ss (c2 := 1) ho2 (row_one w2 (.slice A2 m2 c2) 37) (by simp [Value.oneCell']) (by rw [hpl]; simp [maxLen]; omega) (by rw [hpl]; simp; omega) hbw2.size
     have hb3 := ho2.below hbw2 hg (Nat.le_refl _) hbw2.size
     have hnew : RowS w3 A2 (texts lc) := ((RowS.ofOwn hown2).below (al _ _)).outer ho2 hg
     have hold : ∀ p ∈ ps, RowS w3 p.1 p.2.2 := fun p hp => (((hrs p hp).below hb2).below (al _ _)).outer ho2 hg
     rw [hpl] at hrun
     refine ⟨A3, c3, w3, hrun, ⟨ps ++ [(A2, c2, texts lc)], ?_, ?_, ?_⟩, hb3⟩
     ·rw [HSC.out, e]; simp [cellsP]
     ·have : (ps ++ [(A2, c2, texts lc)]).map psv = ps.map psv ++ [.slice A2 m2 c2] := by rw [List.map_append, hm2, ← texts_len lc]; rfl
      rw [this]; exact ho3
     ·intro p hp
      rcases List.mem_append.1 hp with hp | hp
      ·exact hold p hp
      ·rw [List.mem_singleton.1 hp]; exact hnew
    have HST := Lib.hid hstep
    clear hstep hout
    by_cases hA : k * 23 + 23 ≤ l.length
    ·have hl23 : lc.length = 23 := by omega
     have hcall := cellsOf_any wr (Option.map (fun x => x.add (k * 23 * 2)) A) 23 (c - k * 23) lc hl23.symm hrow (by omega) hfit
     have hc1 : k * 23 + 23 ≤ c := by have := HC.out; omega
     have HL23 := Lib.hid hl23
     clear hrow hlen hfit hl23
     go_wp2_with (first | (go_at_call 115; (with_reducible refine hcall.mono ?_); rintro e w2 ⟨A2, m2, c2, rfl, hm2, hown2, hb2⟩; have hx := HST.out w2 w2 A2 m2 c2 hb2 hm2 hown2; obtain ⟨A3, c3, w3, hrun, ho3, hb3⟩ := hx; clear hm2 hown2) | (at_builtin; refine FreeMem.wpList_append_run rfl (.tmp 18) (.tmp 28) 119 119 rfl rfl rfl hrun ?_))
     clear hcall
     go_roundw
     case rel => exact ⟨k + 1, A3, c3, by omega, rfl, by go_num, ho3, hb3⟩
     case measure => simp [intOf]; omega
    ·obtain ⟨n9, hn9⟩ : ∃ n9, n9 = l.length - k * 23 := ⟨_, rfl⟩
     have hl23 : lc.length = n9 := by omega
     have e9 : l.length - k * 23 = n9 := hn9.symm
     have hcall := cellsOf_any wr (Option.map (fun x => x.add (k * 23 * 2)) A) n9 (c - k * 23) lc hl23.symm hrow (by omega) hfit
     have hc1 : l.length ≤ c := HC.out
     clear hrow hlen hfit hl23 hn9
     go_wp2_with (first | (go_at_call 115; (with_reducible refine hcall.mono ?_); rintro e w2 ⟨A2, m2, c2, rfl, hm2, hown2, hb2⟩; have hx := HST.out w2 w2 A2 m2 c2 hb2 hm2 hown2; obtain ⟨A3, c3, w3, hrun, ho3, hb3⟩ := hx; clear hm2 hown2) | (at_builtin; refine FreeMem.wpList_append_run rfl (.tmp 18) (.tmp 28) 119 119 rfl rfl rfl hrun ?_))
     clear hcall
     go_roundw
     case rel => exact ⟨k + 1, A3, c3, by omega, rfl, by go_num, ho3, hb3⟩
     case measure => simp [intOf]; omega
   ·obtain rfl : k = N := by omega
    have HLN := Lib.hid (chunks_len k l)
    go_wp2_with fail
    go_ret2
    exact ⟨hb, .inl ⟨HG.out, _, _, _, chunks k l, rfl, HLN.out.symm, hout, HPG.out⟩⟩
 ·have hcall := check_any W A l.length c l false rfl hr (by omega) (iff_of_false (by decide) hg)
  have HG := Lib.hid hg
  clear hg hr
  go_enter Tryz.func88, Tryz.ntmps88
  go_wp2_with (go_at_call 101; (with_reducible refine hcall.mono ?_); rintro e w1 ⟨rfl, hb1⟩)
  go_ret2
  exact ⟨hb1, .inr ⟨HG.out, rfl⟩⟩
end Go.Proofs.YtpidnkfcccboaaaGreat.FreeCells
namespace Go.Proofs.YtpidnkfcccboaaaGreat.FreeMid
open Go.RowKit Base FreePlain FreeMem FreeText FreeCellsOf FreePages FreeCheck FreeSl FreeOf FreeCells

/-- a row of texts, in a block of texts that isn't F -/
def RowF (w : World) (F : Option Nat) (A : Option Addr) (cs : List ByteArray) : Prop := ∀ k v, (strs cs)[k]? = some v → ∃ ad cur, A = some ad ∧ F ≠ some ad.block ∧ w.heap[ad.block]? = some (.cells cur 9 (0, 0)) ∧ w.cell? (ad.add k) = some v
section
variable {w w' : World} {A : Option Addr} {cs : List ByteArray} {F : Option Nat}
theorem RowS.none (h : RowS w A cs) : RowF w none A cs := fun k v hv => by
 obtain ⟨ad, cur, e, hb, hc⟩ := h k v hv
 exact ⟨ad, cur, e, (by simp), hb, hc⟩
theorem RowF.keep {F' : Option Nat} (h : RowF w F A cs) (hF : ∀ g, g < w.heap.size → F ≠ some g → F' ≠ some g) (hk : ∀ (g : Nat) (cur : Array Value), F ≠ some g → w.heap[g]? = some (Obj.cells cur 9 (0, 0)) → w'.heap[g]? = w.heap[g]?) : RowF w' F' A cs := fun k v hv => by
 obtain ⟨ad, cur, e, hf, hb, hc⟩ := h k v hv
 have hbb := hk _ _ hf hb
 refine ⟨ad, cur, e, hF _ (lt_of_some hb) hf, hbb.trans hb, ?_⟩
 have e2 : w'.cell? (ad.add k) = w.cell? (ad.add k) := by
  simp only [World.cell?, blk_add, hbb]
 exact e2.trans hc
theorem RowF.below (h : RowF w F A cs) (hb : Below w.heap.size w w') : RowF w' F A cs := h.keep (fun _ _ h => h) fun _ _ _ hg => hb.block _ (lt_of_some hg)
end
/-- two own rows of different kinds lie apart -/
theorem apart {w : World} {b1 b2 c1 c2 : Nat} {A B : Option Addr} {xs ys : List Value} (h1 : Own w b1 37 A c1 xs) (h2 : Own w b2 9 B c2 ys) : (Value.slice A xs.length c1).ownBlock = none ∨ (Value.slice A xs.length c1).ownBlock ≠ (Value.slice B ys.length c2).ownBlock := by
 rcases h1.2 with ⟨e1, _⟩ | ⟨g, cap, cur, e1, _, q1, _⟩
 ·rw [e1]; exact .inl rfl
 ·rcases h2.2 with ⟨e2, _⟩ | ⟨g', cap', cur', e2, _, q2, _⟩
  ·rw [e1, e2]; exact .inr (by simp [Value.ownBlock])
  ·rw [e1, e2]
   refine .inr fun e => ?_
   simp only [Value.ownBlock, Option.some.injEq] at e
   subst e
   rw [q1] at q2
   injection q2 with q2
   injection q2 with _ q
   exact absurd q (by decide)
theorem own_set {w : World} {base c g k : Nat} {e : TypeId} {xs : List Value} (h : Own w base e (some ⟨g, 0, none⟩) c xs) (_hk : k < xs.length) (u : Value) : Own (w.setCell ⟨g, k, none⟩ u) base e (some ⟨g, 0, none⟩) c (xs.set k u) := by
 rcases h.2 with ⟨e1, _⟩ | ⟨g', cap, cur, e1, hb, hh, hn, hc, hs, ht⟩
 ·cases e1
 ·injection e1 with e1 _ e3
  injection e1 with e1
  injection e1 with e1
  subst e1 e3
  refine ⟨by rw [List.length_set]; simp, .inr ⟨g, c, cur.set! k u, by rw [List.length_set], hb, ?_, by rw [List.length_set]; exact hn, hc, by simpa using hs, ?_⟩⟩
  ·exact heap_setCell_same w g k cur e u hh
  ·rw [List.length_set, Array.set!_eq_setIfInBounds, Array.toList_setIfInBounds, List.take_set, ht]
set_option maxRecDepth 100000 in
theorem run_append_loc {w : World} {base : Nat} {t e : TypeId} {bytes : Nat} (ty : TypeId) (hE : Elem Tryz.prog t e bytes) {A A2 : Option Addr} {c c2 B : Nat} {xs news : List Value} (hown : Own w base e A c xs)
  (hr : Row w B A2 news) (hne : news ≠ []) (h1 : ∀ u ∈ news, u.oneCell' = true) (h63 : xs.length + news.length ≤ maxLen) (hbytes : (xs.length + news.length) * bytes ≤ 140737488355328) (hbase : base ≤ w.heap.size) :
  ∃ A' c' w', (Builtin.append_ #[t, t] ty #[.slice A xs.length c, .slice A2 news.length c2]).run Tryz.prog w = .ok (.slice A' (xs.length + news.length) c') w' ∧ Own w' base e A' c' (xs ++ news) ∧ w.grownBy w' (Value.slice A xs.length c).ownBlock ∧
   ((Value.slice A' (xs.length + news.length) c').ownBlock = (Value.slice A xs.length c).ownBlock ∨ (Value.slice A' (xs.length + news.length) c').ownBlock = some w.heap.size) := by
 obtain ⟨ht, i, z, hi, hz, hs, hby, hzs⟩ := hE
 have hpos : 0 < news.length := by
  rcases Nat.eq_zero_or_pos news.length with q | q
  ·exact absurd (List.length_eq_zero_iff.1 q) hne
  ·exact q
 obtain ⟨ad, e2, _⟩ := hr.get 0 hpos
 subst e2
 obtain ⟨v', w', hrun, h2, h3, _, h5⟩ := run_append_own_at (P := Tryz.prog) w base t ty e i z 1 bytes ht hi hz hs hby hzs (by omega) (.slice A xs.length c) xs.length xs hown ad news.length c2 news (by simp) (fun j u hu => by
  obtain ⟨ad', e, _, h⟩ := hr j u hu
  injection e with e
  subst e
  exact h) h1 h63 hbytes hbase
 have hform : ∃ A' c', v' = .slice A' (xs.length + news.length) c' := by
  rcases h2.2 with ⟨h4, h5⟩ | ⟨g, cap, cur, h4, _⟩
  ·exact ⟨none, 0, by rw [h4, h5]⟩
  ·exact ⟨_, _, h4⟩
 obtain ⟨A', c', rfl⟩ := hform
 exact ⟨A', c', w', hrun, by unfold Own; rw [List.length_append]; exact h2, h3, h5⟩
/-- full pages, and the last one -/
def Mid (lo : Nat) (g co : Nat) (qs : List Ps) (o p : Ps) (w : World) : Prop := Own w lo 37 (some ⟨g, 0, none⟩) co (qs.map psv ++ [psv o]) ∧ Own w lo 9 p.1 p.2.1 (strs p.2.2) ∧ ∀ q ∈ qs, RowF w (psv p).ownBlock q.1 q.2.2
section
variable {lo g co : Nat} {qs : List Ps} {o p : Ps} {w w' : World}
theorem Mid.later (h : Mid lo g co qs o p w) (hb : Below w.heap.size w w') : Mid lo g co qs o p w' := ⟨h.1.later hb, h.2.1.later hb, fun q hq => (h.2.2 q hq).below hb⟩
theorem Mid.set (h : Mid lo g co qs o p w) {W : World} (hB : Below lo W w) {k : Nat} (hk : k = qs.length) : Mid lo g co qs p p (w.setCell ⟨g, k, none⟩ (psv p)) ∧ Below lo W (w.setCell ⟨g, k, none⟩ (psv p)) := by
 subst hk
 obtain ⟨h1, h2, h3⟩ := h
 have hlen : (qs.map psv ++ [psv o]).length = qs.length + 1 := by simp
 have hs := own_set (k := qs.length) h1 (by rw [hlen]; omega) (psv p)
 have e1 : (qs.map psv ++ [psv o]).set qs.length (psv p) = qs.map psv ++ [psv p] := by
  rw [List.set_append_right _ _ (by simp)]
  simp
 rw [e1] at hs
 have hap := apart h1 h2
 rw [strs_len] at hap
 have hne : (psv p).ownBlock ≠ some g := by
  rcases hap with q | q
  ·cases q
  ·exact fun e => q e.symm
 have hty : ∀ cur, w.heap[g]? ≠ some (Obj.cells cur 9 (0, 0)) := fun cur e => by
  rcases h1.2 with ⟨q1, _⟩ | ⟨g', cap, cur', q1, _, q2, _⟩
  ·cases q1
  ·injection q1 with q1
   injection q1 with q1
   injection q1 with q1
   subst q1
   rw [e] at q2
   injection q2 with q2
   injection q2 with _ q
   exact absurd q (by decide)
 refine ⟨⟨hs, ?_, fun q hq => (h3 q hq).keep (fun _ _ h => h) fun b cur _ hb => heap_setCell_other _ _ _ _ fun e => ?_⟩, hB.setCell ?_ _⟩
 ·have h2' : w.ownsRow lo 9 1 (psv p) (strs p.2.2).length (strs p.2.2) := by
   have := h2
   unfold Own at this
   rw [show psv p = .slice p.1 (strs p.2.2).length p.2.1 by rw [strs_len]; rfl]
   exact this
  have := ownsRow_setCell_other h2' (a := ⟨g, qs.length, none⟩) hne (psv p)
  unfold Own
  rw [show (Value.slice p.1 (strs p.2.2).length p.2.1) = psv p by rw [strs_len]; rfl]
  exact this
 ·have e : b = g := e
  subst e
  exact hty _ hb
 ·exact (h1.block g (by simp [Value.ownBlock])).1
theorem Mid.cell (h : Mid lo g co qs o p w) : w.cell? ((⟨g, 0, none⟩ : Addr).add qs.length) = some (psv o) := by
 obtain ⟨ad, e, _, hc⟩ := h.1.row.get qs.length (by simp)
 injection e with e
 subst e
 simpa using hc
theorem Mid.free (h : Mid lo g co qs o p w) (k : Nat) : w.frozen? ⟨g, k, none⟩ = false := by
 rcases h.1.2 with ⟨q1, _⟩ | ⟨g', cap, cur, q1, _, q2, _⟩
 ·cases q1
 ·injection q1 with q1
  injection q1 with q1
  injection q1 with q1
  subst q1
  simp [World.frozen?, q2]
theorem Mid.lt (h : Mid lo g co qs o p w) : lo ≤ g ∧ g < w.heap.size := h.1.block g (by simp [Value.ownBlock])
end
end Go.Proofs.YtpidnkfcccboaaaGreat.FreeMid
namespace Go.Proofs.YtpidnkfcccboaaaGreat.PagerCells
open Go.RowKit Base FreePlain FreeMem FreeText FreeCellsOf FreePages FreeCheck FreeSl FreeOf
open FreeCells (lt_of_some el_ss texts_append chunks chunks_len chunks_succ chunks_pages pagesFor_any psv_one)

/-- a row of texts, in a block of texts that is new -/
def RowT (lo : Nat) (w : World) (A : Option Addr) (cs : List ByteArray) : Prop := ∀ k v, (strs cs)[k]? = some v → ∃ ad cur, A = some ad ∧ lo ≤ ad.block ∧ w.heap[ad.block]? = some (.cells cur 9 (0, 0)) ∧ w.cell? (ad.add k) = some v
section
variable {w w' : World} {A : Option Addr} {cs : List ByteArray} {lo : Nat}
theorem RowT.row (h : RowT lo w A cs) : Row w w.heap.size A (strs cs) := fun k v hv => by
 obtain ⟨ad, cur, e, _, hb, hc⟩ := h k v hv
 exact ⟨ad, e, lt_of_some hb, hc⟩
theorem RowT.mono (h : RowT lo w A cs) {l2 : Nat} (hl : l2 ≤ lo) : RowT l2 w A cs := fun k v hv => by
 obtain ⟨ad, cur, e, hl2, hb, hc⟩ := h k v hv
 exact ⟨ad, cur, e, Nat.le_trans hl hl2, hb, hc⟩
theorem RowT.ofOwn {base c : Nat} (h : Own w base 9 A c (strs cs)) : RowT base w A cs := fun k v hv => by
 have hr := h.row k v hv
 obtain ⟨ad, e, _, hc⟩ := hr
 subst e
 have hbl := (h.block ad.block rfl).1
 rcases h.2 with ⟨h1, h2⟩ | ⟨g, cap, cur, h1, _, h2, _⟩
 ·injection h1 with h1; cases h1
 ·injection h1 with h1
  injection h1 with h1
  subst h1
  exact ⟨_, cur, rfl, hbl, h2, hc⟩
theorem RowT.keep (h : RowT lo w A cs) (hk : ∀ (g : Nat) (cur : Array Value), w.heap[g]? = some (Obj.cells cur 9 (0, 0)) → w'.heap[g]? = w.heap[g]?) : RowT lo w' A cs := fun k v hv => by
 obtain ⟨ad, cur, e, hl, hb, hc⟩ := h k v hv
 have hbb := hk _ _ hb
 refine ⟨ad, cur, e, hl, hbb.trans hb, ?_⟩
 have e2 : w'.cell? (ad.add k) = w.cell? (ad.add k) := by
  simp only [World.cell?, blk_add, hbb]
 exact e2.trans hc
theorem RowT.below (h : RowT lo w A cs) (hb : Below w.heap.size w w') : RowT lo w' A cs := h.keep fun _ _ hg => hb.block _ (lt_of_some hg)
/-- what the outer row's growing leaves -/
theorem RowT.outer (h : RowT lo w A cs) {base c : Nat} {Ao : Option Addr} {xs : List Value} (hown : Own w base 37 Ao c xs) (hg : w.grownBy w' (Value.slice Ao xs.length c).ownBlock) : RowT lo w' A cs := h.keep fun g cur hgb => by
 refine hg.block g (lt_of_some hgb) fun e => ?_
 rcases hown.2 with ⟨h1, h2⟩ | ⟨g', cap, cur', h1, _, h2, _⟩
 ·rw [h1] at e; cases e
 ·rw [h1] at e
  simp only [Value.ownBlock, Option.some.injEq] at e
  subst e
  rw [h2] at hgb
  injection hgb with hgb
  injection hgb with _ q
  exact absurd q (by decide)
end
/-- pages of cells, in rows of the call's own -/
def OutT (lo : Nat) (cs : Cs) (A : Option Addr) (c : Nat) (w : World) : Prop := ∃ ps : List Ps, cs = cellsP ps ∧ Own w lo 37 A c (ps.map psv) ∧ ∀ p ∈ ps, RowT lo w p.1 p.2.2
theorem OutT.below {lo c : Nat} {cs : Cs} {A : Option Addr} {w w' : World} (h : OutT lo cs A c w) (hb : Below w.heap.size w w') : OutT lo cs A c w' := by
 obtain ⟨ps, e, ho, hr⟩ := h
 exact ⟨ps, e, ho.later hb, fun p hp => (hr p hp).below hb⟩
set_option maxRecDepth 100000 in
set_option maxHeartbeats 3200000 in
theorem cellsT_any (W : World) (A : Option Addr) (n c : Nat) (l : Fs) (hn : n = l.length) (hc : l.length ≤ c) (hr : Row W W.heap.size A (fr l)) (hl : l.length ≤ 1000) :
  Calls Tryz.prog 88 #[.slice A n c] W fun e w' => Below W.heap.size W w' ∧ ((Gd l ∧ ∃ A' m c' cs, e = .returned (.tuple #[.slice A' m c', .int .i64 0]) ∧ m = cs.length ∧ OutT W.heap.size cs A' c' w' ∧ PagesOf cs l) ∨ (¬ Gd l ∧ e = .returned (.tuple #[.slice none 0 0, .int .i64 60]))) := by
 subst hn
 have HR := Lib.hid hr
 have HC := Lib.hid hc
 clear hc
 by_cases hg : Gd l
 ·have hcall := check_any W A l.length c l true rfl hr (by omega) (iff_of_true rfl hg)
  have HG := Lib.hid hg
  have HF := Lib.hid hg.1
  have hpf := fun w => pagesFor_any w l.length (by omega)
  have hN : (l.length + 22) / 23 ≤ 100 := by omega
  have HN := Lib.hid (show ∀ k, k < (l.length + 22) / 23 → k * 23 < l.length by intro k hk; omega)
  have HPG := Lib.hid (show PagesOf (chunks ((l.length + 22) / 23) l) l from chunks_pages rfl)
  generalize (l.length + 22) / 23 = N at *
  clear hg hr
  go_enter Tryz.func88, Tryz.ntmps88
  go_wp2_with (first | (go_at_call 101; (with_reducible refine hcall.mono ?_); rintro e w1 ⟨rfl, hb1⟩) | (go_at_call 114; (with_reducible refine (hpf _).mono ?_); rintro e w2 ⟨rfl, hw2⟩; subst w2))
  clear hcall hpf
  go_loopw [4, 13] (fun v i wr => ∃ (k : Nat) (A' : Option Addr) (c' : Nat), k ≤ N ∧ v = .slice A' k c' ∧ i = .int .i64 k ∧ OutT W.heap.size (chunks k l) A' c' wr ∧ Below W.heap.size W wr) (fun _ i _ => N - (intOf i).toNat)
  case atStart => exact ⟨0, none, 0, by omega, rfl, rfl, ⟨[], rfl, Own.nil _ _ _, by simp⟩, hb1⟩
  case round =>
   clear hb1
   obtain ⟨k, A', c', hk, rfl, rfl, hout, hb⟩ := hrel
   by_cases hlt : k < N
   ·have hkl := HN.out k hlt
    have hc2 : (c = k * 23) = False := by have := HC.out; simp; omega
    have hrow : Row wr wr.heap.size (Option.map (fun x => x.add (k * 23 * 2)) A) (fr ((l.drop (k * 23)).take 23)) := by
     have h := row_cut (i := k * 23) (k := 23) (HR.out.belowSize hb) HC.out
     rw [if_neg (by have := HC.out; omega)] at h
     exact h
    have hlen : ((l.drop (k * 23)).take 23).length = min 23 (l.length - k * 23) := by rw [List.length_take, List.length_drop]
    have hfit : ∀ p ∈ (l.drop (k * 23)).take 23, Fit p := fun p hp => HF.out p (List.mem_of_mem_drop (List.mem_of_mem_take hp))
    have HSC := Lib.hid (chunks_succ k l)
    have HCL := Lib.hid (chunks_len k l)
    generalize (l.drop (k * 23)).take 23 = lc at *
    have hstep : ∀ (w2 w3 : World) (A2 : Option Addr) (m2 c2 : Nat), Below wr.heap.size wr w2 → m2 = lc.length → Own w2 wr.heap.size 9 A2 c2 (strs (texts lc)) → ∃ A3 c3 w3, (Builtin.append_ #[119, 119] 119 #[.slice A' k c', .slice (some ⟨w2.heap.size, 0, none⟩) 1 1]).run Tryz.prog (w2.alloc (.cells #[.slice A2 m2 c2] 37)) = .ok (.slice A3 (k + 1) c3) w3 ∧ OutT W.heap.size (chunks (k + 1) l) A3 c3 w3 ∧ Below W.heap.size W w3 := by
     intro w2 _ A2 m2 c2 hb2 hm2 hown2
     obtain ⟨ps, e, ho, hrs⟩ := hout
     have hpl : (ps.map psv).length = k := by rw [List.length_map]; have h1 := HCL.out; rw [e] at h1; simpa [cellsP] using h1
     have ho2 := (ho.later hb2).alloc (.cells #[.slice A2 m2 c2] 37)
     have hbw := bstep hb hb.size hb2
     have hbw2 := bstep hbw hbw.size (al w2 (.cells #[.slice A2 m2 c2] 37))
     obtain ⟨A3, c3, w3, hrun, ho3, hg⟩ := run_append_row (P := Tryz.prog) 119 el_ss (c2 := 1) ho2 (row_one w2 (.slice A2 m2 c2) 37) (by simp [Value.oneCell']) (by rw [hpl]; simp [maxLen]; omega) (by rw [hpl]; simp; omega) hbw2.size
     have hb3 := ho2.below hbw2 hg (Nat.le_refl _) hbw2.size
     have hnew : RowT W.heap.size w3 A2 (texts lc) := (((RowT.ofOwn hown2).below (al _ _)).outer ho2 hg).mono hb.size
     have hold : ∀ p ∈ ps, RowT W.heap.size w3 p.1 p.2.2 := fun p hp => (((hrs p hp).below hb2).below (al _ _)).outer ho2 hg
     rw [hpl] at hrun
     refine ⟨A3, c3, w3, hrun, ⟨ps ++ [(A2, c2, texts lc)], ?_, ?_, ?_⟩, hb3⟩
     ·rw [HSC.out, e]; simp [cellsP]
     ·have : (ps ++ [(A2, c2, texts lc)]).map psv = ps.map psv ++ [.slice A2 m2 c2] := by rw [List.map_append, hm2, ← texts_len lc]; rfl
      rw [this]; exact ho3
     ·intro p hp
      rcases List.mem_append.1 hp with hp | hp
      ·exact hold p hp
      ·rw [List.mem_singleton.1 hp]; exact hnew
    have HST := Lib.hid hstep
    clear hstep hout
    by_cases hA : k * 23 + 23 ≤ l.length
    ·have hl23 : lc.length = 23 := by omega
     have hcall := cellsOf_any wr (Option.map (fun x => x.add (k * 23 * 2)) A) 23 (c - k * 23) lc hl23.symm hrow (by omega) hfit
     have hc1 : k * 23 + 23 ≤ c := by have := HC.out; omega
     have HL23 := Lib.hid hl23
     clear hrow hlen hfit hl23
     go_wp2_with (first | (go_at_call 115; (with_reducible refine hcall.mono ?_); rintro e w2 ⟨A2, m2, c2, rfl, hm2, hown2, hb2⟩; have hx := HST.out w2 w2 A2 m2 c2 hb2 hm2 hown2; obtain ⟨A3, c3, w3, hrun, ho3, hb3⟩ := hx; clear hm2 hown2) | (at_builtin; refine FreeMem.wpList_append_run rfl (.tmp 18) (.tmp 28) 119 119 rfl rfl rfl hrun ?_))
     clear hcall
     go_roundw
     case rel => exact ⟨k + 1, A3, c3, by omega, rfl, by go_num, ho3, hb3⟩
     case measure => simp [intOf]; omega
    ·obtain ⟨n9, hn9⟩ : ∃ n9, n9 = l.length - k * 23 := ⟨_, rfl⟩
     have hl23 : lc.length = n9 := by omega
     have e9 : l.length - k * 23 = n9 := hn9.symm
     have hcall := cellsOf_any wr (Option.map (fun x => x.add (k * 23 * 2)) A) n9 (c - k * 23) lc hl23.symm hrow (by omega) hfit
     have hc1 : l.length ≤ c := HC.out
     clear hrow hlen hfit hl23 hn9
     go_wp2_with (first | (go_at_call 115; (with_reducible refine hcall.mono ?_); rintro e w2 ⟨A2, m2, c2, rfl, hm2, hown2, hb2⟩; have hx := HST.out w2 w2 A2 m2 c2 hb2 hm2 hown2; obtain ⟨A3, c3, w3, hrun, ho3, hb3⟩ := hx; clear hm2 hown2) | (at_builtin; refine FreeMem.wpList_append_run rfl (.tmp 18) (.tmp 28) 119 119 rfl rfl rfl hrun ?_))
     clear hcall
     go_roundw
     case rel => exact ⟨k + 1, A3, c3, by omega, rfl, by go_num, ho3, hb3⟩
     case measure => simp [intOf]; omega
   ·obtain rfl : k = N := by omega
    have HLN := Lib.hid (chunks_len k l)
    go_wp2_with fail
    go_ret2
    exact ⟨hb, .inl ⟨HG.out, _, _, _, chunks k l, rfl, HLN.out.symm, hout, HPG.out⟩⟩
 ·have hcall := check_any W A l.length c l false rfl hr (by omega) (iff_of_false (by decide) hg)
  have HG := Lib.hid hg
  clear hg hr
  go_enter Tryz.func88, Tryz.ntmps88
  go_wp2_with (go_at_call 101; (with_reducible refine hcall.mono ?_); rintro e w1 ⟨rfl, hb1⟩)
  go_ret2
  exact ⟨hb1, .inr ⟨HG.out, rfl⟩⟩
end Go.Proofs.YtpidnkfcccboaaaGreat.PagerCells
