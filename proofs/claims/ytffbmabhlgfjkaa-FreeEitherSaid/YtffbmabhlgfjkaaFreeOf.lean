/- The contract of Of. -/
import Derived.Test.YtffbmabhlgfjkaaFreePages
import Derived.Test.YtffbmabhlgfjkaaFreeCheck
import Derived.Test.YtffbmabhlgfjkaaFreeSl
namespace Go.Proofs.Ytffbmabhlgfjkaa.FreeOf
open Go.RowKit Base FreePlain FreeMem FreeText FreeCellsOf FreePages FreeCheck

/-- a page's slice -/
abbrev Ps := Option Addr × Nat × List ByteArray
def psv (p : Ps) : Value := .slice p.1 p.2.2.length p.2.1
theorem str_h (q : ByteArray) (h : q.size = 8) : ∃ s : ByteArray, (∀ w : World, (Instr.slice 9 (.string q) none (some (.int .i64 4)) none).run Try.prog w = .ok (.string s) w) ∧ s.size = 4 ∧ s.data.toList = q.data.toList.take 4 := by
  refine ⟨q.extract 0 4, fun w => ?_, by simp [h], by simp⟩
  have h4 : (4 : Int) ≤ (q.size : Int) := by omega
  go_simp
theorem str_l (q : ByteArray) (h : q.size = 8) : ∃ s : ByteArray, (∀ w : World, (Instr.slice 9 (.string q) (some (.int .i64 4)) none none).run Try.prog w = .ok (.string s) w) ∧ s.size = 4 ∧ s.data.toList = q.data.toList.drop 4 := by
  refine ⟨q.extract 4 q.size, fun w => ?_, by simp [h], ?_⟩
  · have h4 : (4 : Int) ≤ (q.size : Int) := by omega
    go_simp
  · simp
    exact List.take_of_length_le (by rw [List.length_drop]; exact Nat.le_refl _)
/-- what Of comes to -/
def OfPost (W : World) (cs : Cs) (e : Ending) (w' : World) : Prop := Below W.heap.size W w' ∧
  ((∃ A m c l, e = .returned (.tuple #[.slice A m c, .int .i64 0]) ∧ m = l.length ∧ OwnF w' W.heap.size A c l ∧ Gd l ∧ PagesOf cs l) ∨
   (e = .returned (.tuple #[.slice none 0 0, .int .i64 60]) ∧ ∀ l, Gd l → ¬ PagesOf cs l))
def cellsP (ps : List Ps) : Cs := ps.map fun p => p.2.2
set_option maxRecDepth 100000 in
set_option maxHeartbeats 12800000 in
theorem of_any (W : World) (A : Option Addr) (n c : Nat) (ps : List Ps) (hn : n = ps.length) (hr : Row W W.heap.size A (ps.map psv)) (hp : ∀ p ∈ ps, Row W W.heap.size p.1 (strs p.2.2)) (hl : ps.length ≤ 100) (hl2 : ∀ p ∈ ps, p.2.2.length ≤ 100) :
    Calls Try.prog 23 #[.slice A n c] W (OfPost W (cellsP ps)) := by
  subst hn
  have HR := Lib.hid hr
  have HP := Lib.hid hp
  have HL2 := Lib.hid hl2
  clear hr hp hl2
  go_enter Try.func23, Try.ntmps23
  go_wp2_with fail
  go_loopw [4, 11] (fun v i wr => ∃ (k m : Nat) (A' : Option Addr) (c' : Nat), k ≤ ps.length ∧ m = (((cellsP ps).take k).flatten.map par).length ∧ v = .slice A' m c' ∧ i = .int .i64 k ∧ OwnF wr W.heap.size A' c' (((cellsP ps).take k).flatten.map par) ∧ (∀ j (_ : j < k) (h : j < ps.length), ((ps[j]).2.2.length = 23 ∨ (j + 1 = ps.length ∧ 0 < (ps[j]).2.2.length ∧ (ps[j]).2.2.length < 23)) ∧ ∀ q ∈ (ps[j]).2.2, q.size = 8) ∧ Below W.heap.size W wr) (fun _ i _ => ps.length - (intOf i).toNat)
  case atStart => exact ⟨0, 0, none, 0, by omega, by simp, rfl, rfl, by simpa using OwnF.nil W W.heap.size, by intro j h q; omega, Below.refl _ _⟩
  case round =>
    obtain ⟨k, m, A', c', hk, hm, rfl, rfl, hown, hpre, hb⟩ := hrel
    have HPRE := Lib.hid hpre
    have HM0 := Lib.hid hm
    have HOW := Lib.hid hown
    clear hpre hm hown
    by_cases hlt : k < ps.length
    · obtain ⟨ad, hA, hblk, hc⟩ := HR.out.get k (by simpa using hlt)
      subst hA
      have hc' := (hb.cell (p := ad.add k) (by rw [blk_add]; exact hblk)).trans hc
      clear hc
      have hrow0 := HP.out ps[k] (List.getElem_mem hlt)
      have hrow := (hrow0.below hb).more hb.size
      have hlk := HL2.out ps[k] (List.getElem_mem hlt)
      simp only [List.getElem_map, psv] at hc'
      have HFL := Lib.hid (show ∀ l, Gd l → PagesOf (cellsP ps) l → ((ps[k]).2.2.length = 23 ∨ (k + 1 = ps.length ∧ 0 < (ps[k]).2.2.length ∧ (ps[k]).2.2.length < 23)) from fun l _ h => by
        have := h.1 k (by simpa [cellsP] using hlt)
        simpa [cellsP] using this)
      have HEI := Lib.hid (show ∀ l, Gd l → PagesOf (cellsP ps) l → ∀ q ∈ (ps[k]).2.2, q.size = 8 from fun l _ h => eight h _ (by simp only [cellsP]; exact List.mem_map.2 ⟨_, List.getElem_mem hlt, rfl⟩))
      have HFT := Lib.hid (show (cellsP ps).take (k + 1) = (cellsP ps).take k ++ [(ps[k]).2.2] by
        rw [List.take_succ_eq_append_getElem (by simpa [cellsP] using hlt)]
        simp [cellsP])
      have HNX := Lib.hid (show ((ps[k]).2.2.length = 23 ∨ (k + 1 = ps.length ∧ 0 < (ps[k]).2.2.length ∧ (ps[k]).2.2.length < 23)) → (∀ q ∈ (ps[k]).2.2, q.size = 8) → ∀ j (_ : j < k + 1) (h : j < ps.length), ((ps[j]).2.2.length = 23 ∨ (j + 1 = ps.length ∧ 0 < (ps[j]).2.2.length ∧ (ps[j]).2.2.length < 23)) ∧ ∀ q ∈ (ps[j]).2.2, q.size = 8 from fun h1 h2 j hj h => by
        rcases Nat.lt_or_ge j k with q | q
        · exact HPRE.out j q h
        · obtain rfl : j = k := by omega
          exact ⟨h1, h2⟩)
      have HFB := Lib.hid (show (((cellsP ps).take k).flatten.map par).length ≤ 10000 by
        rw [List.length_map, List.length_flatten]
        have : (((cellsP ps).take k).map List.length).sum ≤ 100 * (((cellsP ps).take k).map List.length).length := by
          generalize hz : ((cellsP ps).take k).map List.length = zs
          have hzs : ∀ z ∈ zs, z ≤ 100 := fun z hz' => by
            rw [← hz] at hz'
            obtain ⟨c, hc, rfl⟩ := List.mem_map.1 hz'
            obtain ⟨p, hp, rfl⟩ := List.mem_map.1 (List.mem_of_mem_take hc)
            exact HL2.out p hp
          clear hz
          induction zs with
          | nil => simp
          | cons z zs ih =>
            have h1 := hzs z (by simp)
            have h2 := ih fun y hy => hzs y (by simp [hy])
            simp; omega
        rw [List.length_map, List.length_take] at this
        omega)
      generalize (ps[k]).2.2 = lk at *
      generalize (ps[k]).2.1 = ck at *
      generalize (ps[k]).1 = Ak at *
      by_cases hfill : lk.length = 23 ∨ (k + 1 = ps.length ∧ 0 < lk.length ∧ lk.length < 23)
      · have HFI := Lib.hid hfill
        have hcall := filled_any wr lk.length ((k : Int) == (ps.length : Int) - 1) true (by
          simp only [true_iff, beq_iff_eq]
          rcases hfill with h | ⟨h1, h2, h3⟩
          · exact .inl h
          · exact .inr ⟨by omega, h2, h3⟩)
        clear hfill
        by_cases hbad : ∃ q ∈ lk, q.size ≠ 8
        · have HB := Lib.hid hbad
          have hcall2 := containsS_any wr Ak lk.length ck lk true rfl hrow (by omega) (iff_of_true rfl hbad)
          clear hbad
          go_wp2_with (first | (go_at_call 35; (with_reducible refine hcall.mono ?_); rintro e w9 ⟨rfl, hw9⟩; subst w9) | (go_at_call 36; (with_reducible refine hcall2.mono ?_); rintro e w9 ⟨rfl, hw9⟩; subst w9))
          go_ret2
          refine ⟨hb, .inr ⟨rfl, fun l hg h => ?_⟩⟩
          obtain ⟨q, hq, h8⟩ := HB.out
          exact h8 (HEI.out l hg h q hq)
        · have HB := Lib.hid (show ∀ q ∈ lk, q.size = 8 from fun q hq => Decidable.byContradiction fun h => hbad ⟨q, hq, h⟩)
          have hcall2 := containsS_any wr Ak lk.length ck lk false rfl hrow (by omega) (iff_of_false (by decide) hbad)
          have HROW := Lib.hid hrow0
          clear hbad hrow hrow0
          go_wp2_with (first | (go_at_call 35; (with_reducible refine hcall.mono ?_); rintro e w9 ⟨rfl, hw9⟩; subst w9) | (go_at_call 36; (with_reducible refine hcall2.mono ?_); rintro e w9 ⟨rfl, hw9⟩; subst w9))
          clear hcall hcall2 hc'
          go_loopw [4, 31] (fun v i wr => ∃ (j m : Nat) (A' : Option Addr) (c' : Nat), j ≤ lk.length ∧ m = ((((cellsP ps).take k).flatten ++ lk.take j).map par).length ∧ v = .slice A' m c' ∧ i = .int .i64 j ∧ OwnF wr W.heap.size A' c' ((((cellsP ps).take k).flatten ++ lk.take j).map par) ∧ Below W.heap.size W wr) (fun _ i _ => lk.length - (intOf i).toNat)
          case atStart => exact ⟨0, m, A', c', by omega, by simpa using HM0.out, rfl, rfl, by simpa using HOW.out, hb⟩
          case round =>
            clear hb HOW HM0
            obtain ⟨j, m, A', c', hj, hm, rfl, rfl, hown, hb2⟩ := hrel
            have HM := Lib.hid hm
            have HML := Lib.hid (show m ≤ 20000 by
              have h1 := HFB.out
              rw [hm]
              rw [List.length_map] at h1 ⊢
              rw [List.length_append, List.length_take]
              omega)
            clear hm
            by_cases hjl : j < lk.length
            · obtain ⟨bd, hA, hbb, hcj⟩ := strs_get HROW.out j hjl
              subst hA
              have hcj' := (hb2.cell (p := bd.add j) (by rw [blk_add]; exact hbb)).trans hcj
              clear hcj
              have h8 := HB.out _ (List.getElem_mem hjl)
              have HT := Lib.hid (show ((((cellsP ps).take k).flatten ++ lk.take (j + 1)).map par) = ((((cellsP ps).take k).flatten ++ lk.take j).map par) ++ [par lk[j]] by
                rw [List.take_succ_eq_append_getElem hjl, ← List.append_assoc, List.map_append]
                rfl)
              obtain ⟨s1, hst1, hs1, hd1⟩ := str_h lk[j] h8
              obtain ⟨s2, hst2, hs2, hd2⟩ := str_l lk[j] h8
              have HSL := Lib.hid (And.intro hst1 hst2)
              have hpar : par lk[j] = (((nb s1.data.toList : Nat) : Int), ((nb s2.data.toList : Nat) : Int)) := by unfold par; rw [hd1, hd2]
              rw [hpar] at HT
              have HN1 := Lib.hid (fun w : World => number_any w s1 hs1)
              have HN2 := Lib.hid (fun w : World => number_any w s2 hs2)
              clear hst1 hst2 hd1 hd2 hpar
              generalize lk[j] = q at *
              generalize ((((cellsP ps).take k).flatten ++ lk.take j).map par) = acc at *
              generalize hx1 : nb s1.data.toList = x1 at *
              generalize hx2 : nb s2.data.toList = x2 at *
              clear hx1 hx2
              go_wp2_with fail
              clear hcj'
              refine wp_region_any (by kernel_rfl) ?_
              change wpAny _ _ _ _ _ _ _ (World.drew _)
              obtain ⟨u0, hu0⟩ : ∃ v, v = World.drew wr := ⟨_, rfl⟩
              rw [← hu0]
              have hB0 : Below W.heap.size W u0 := by rw [hu0]; exact hb2.drew
              have hown : OwnF u0 W.heap.size A' c' acc := by rw [hu0]; exact hown
              clear hu0 hb2
              refine Reg.take_at (i := 0) (d := 35) (v := ?_) rfl rfl (by kernel_rfl) (by kernel_rfl) (by kernel_rfl) (fun _ _ _ h => h) (Or.inl ⟨by rfl, ?_⟩) ?_
              rotate_left 1
              · intro w; go_simp <;> with_reducible rfl
              simp only [Act.put, List.setIfInBounds_toArray, List.set_cons_zero, List.set_cons_succ]
              refine Reg.take_at (i := 1) (d := 36) (v := ?_) rfl rfl (by kernel_rfl) (by kernel_rfl) (by kernel_rfl) (fun _ _ _ h => h) (Or.inl ⟨by rfl, ?_⟩) ?_
              rotate_left 1
              · intro w; go_simp <;> with_reducible rfl
              simp only [Act.put, List.setIfInBounds_toArray, List.set_cons_zero, List.set_cons_succ]
              refine Reg.take_at (i := 4) (d := 39) (v := ?_) rfl rfl (by kernel_rfl) (by kernel_rfl) (by kernel_rfl) (fun _ _ _ h => h) (Or.inl ⟨by rfl, ?_⟩) ?_
              rotate_left 1
              · intro w; go_simp <;> with_reducible rfl
              simp only [Act.put, List.setIfInBounds_toArray, List.set_cons_zero, List.set_cons_succ]
              refine wpAny_ready (rs := [2, 5]) (by decide +kernel) (by simp) ?_
              refine AllReady.cons rfl (fun KK hK => ?_) ?_
              · obtain ⟨hq1, hq2⟩ := HSL.out
                go_simp
                refine hK _ _ ?_
                clear hK KK hq1 hq2
                refine wpAny_ready (rs := [3, 5]) (by decide +kernel) (by simp) ?_
                refine AllReady.cons rfl (fun KK hK => ?_) ?_
                · go_simp
                  (with_reducible refine (HN1.out u0).mono ?_)
                  rintro e w9 ⟨rfl, hw9⟩
                  subst w9
                  go_simp
                  refine hK _ _ ?_
                  clear hK KK
                  refine wpAny_ready (rs := [5]) (by decide +kernel) (by simp) ?_
                  refine AllReady.cons rfl (fun KK hK => ?_) AllReady.nil
                  obtain ⟨hq1, hq2⟩ := HSL.out
                  go_simp
                  refine hK _ _ ?_
                  clear hK KK hq1 hq2
                  refine wpAny_ready (rs := [6]) (by decide +kernel) (by simp) ?_
                  refine AllReady.cons rfl (fun KK hK => ?_) AllReady.nil
                  go_simp
                  (with_reducible refine (HN2.out u0).mono ?_)
                  rintro e w9 ⟨rfl, hw9⟩
                  subst w9
                  go_simp
                  refine hK _ _ ?_
                  clear hK KK
                  refine Reg.take_at (i := 7) (d := 42) (v := ?_) rfl rfl (by kernel_rfl) (by kernel_rfl) (by kernel_rfl) (fun _ _ _ h => h) (Or.inl ⟨by rfl, ?_⟩) ?_
                  rotate_left 1
                  · intro w; go_simp <;> with_reducible rfl
                  simp only [Act.put, List.setIfInBounds_toArray, List.set_cons_zero, List.set_cons_succ]
                  refine wpAny_ready (rs := [8]) (by decide +kernel) (by simp) ?_
                  refine AllReady.cons rfl (fun KK hK => ?_) AllReady.nil
                  go_simp
                  refine hK _ _ ?_
                  clear hK KK
                  obtain ⟨u1, hw⟩ : ∃ v, v = u0.alloc (.cells #[.int .i64 (x1 : Int), .int .i64 (x2 : Int)] 25) := ⟨_, rfl⟩
                  rw [← hw]
                  have hst : Below u0.heap.size u0 u1 := by rw [hw]; exact al _ _
                  have hB1 := bstep hB0 hB0.size hst
                  have hown := hown.later hst
                  have hr1 : Row u1 u1.heap.size (some ⟨u0.heap.size, 0, none⟩) (fr [((x1 : Int), (x2 : Int))]) := by rw [hw]; exact row_item _ (_, _)
                  clear hw hst
                  refine wpAny_ready (rs := [9]) (by decide +kernel) (by simp) ?_
                  refine AllReady.cons rfl (fun KK hK => ?_) AllReady.nil
                  have hbs := hB1.size
                  obtain ⟨A2, c2, u2, hrun, hown2, hg⟩ := run_append_f hown (n := m) (m := 1) (k := m + 1) (c2 := 1) (news := [((x1 : Int), (x2 : Int))]) HM.out rfl rfl hr1 (by have := HML.out; omega) hbs
                  have hB2 : Below W.heap.size W u2 := hown.below hB1 (by rw [← HM.out]; exact hg) (Nat.le_refl _) hbs
                  refine step_append_d (d := 44) rfl rfl (.tmp 35) (.tmp 43) 22 22 rfl (vs := .slice A' m c') (vx := .slice (some ⟨u0.heap.size, 0, none⟩) 1 1) (by simp [Act.eval]) (by simp [Act.eval]) hrun ?_
                  refine hK _ _ ?_
                  clear hK KK hrun
                  simp only [Act.put, List.setIfInBounds_toArray, List.set_cons_zero, List.set_cons_succ]
                  refine Reg.take_at (i := 10) (d := 4) (v := ?_) rfl rfl (by kernel_rfl) (by kernel_rfl) (by kernel_rfl) (fun _ _ _ h => h) (Or.inl ⟨by rfl, ?_⟩) ?_
                  rotate_left 1
                  · intro w; go_simp <;> with_reducible rfl
                  simp only [Act.put, List.setIfInBounds_toArray, List.set_cons_zero, List.set_cons_succ]
                  refine wpAny_done (by kernel_rfl) ?_ _
                  go_wp2_with fail
                  go_roundw
                  case rel => exact ⟨j + 1, m + 1, A2, c2, by omega, by rw [HT.out, List.length_append, ← HM.out]; rfl, rfl, by go_num, by rw [HT.out]; exact hown2, hB2⟩
                  case measure => simp [intOf]; omega
                refine AllReady.cons rfl (fun KK hK => ?_) AllReady.nil
                obtain ⟨hq1, hq2⟩ := HSL.out
                go_simp
                refine hK _ _ ?_
                clear hK KK hq1 hq2
                refine wpAny_ready (rs := [3]) (by decide +kernel) (by simp) ?_
                refine AllReady.cons rfl (fun KK hK => ?_) AllReady.nil
                go_simp
                (with_reducible refine (HN1.out u0).mono ?_)
                rintro e w9 ⟨rfl, hw9⟩
                subst w9
                go_simp
                refine hK _ _ ?_
                clear hK KK
                refine wpAny_ready (rs := [6]) (by decide +kernel) (by simp) ?_
                refine AllReady.cons rfl (fun KK hK => ?_) AllReady.nil
                go_simp
                (with_reducible refine (HN2.out u0).mono ?_)
                rintro e w9 ⟨rfl, hw9⟩
                subst w9
                go_simp
                refine hK _ _ ?_
                clear hK KK
                refine Reg.take_at (i := 7) (d := 42) (v := ?_) rfl rfl (by kernel_rfl) (by kernel_rfl) (by kernel_rfl) (fun _ _ _ h => h) (Or.inl ⟨by rfl, ?_⟩) ?_
                rotate_left 1
                · intro w; go_simp <;> with_reducible rfl
                simp only [Act.put, List.setIfInBounds_toArray, List.set_cons_zero, List.set_cons_succ]
                refine wpAny_ready (rs := [8]) (by decide +kernel) (by simp) ?_
                refine AllReady.cons rfl (fun KK hK => ?_) AllReady.nil
                go_simp
                refine hK _ _ ?_
                clear hK KK
                obtain ⟨u1, hw⟩ : ∃ v, v = u0.alloc (.cells #[.int .i64 (x1 : Int), .int .i64 (x2 : Int)] 25) := ⟨_, rfl⟩
                rw [← hw]
                have hst : Below u0.heap.size u0 u1 := by rw [hw]; exact al _ _
                have hB1 := bstep hB0 hB0.size hst
                have hown := hown.later hst
                have hr1 : Row u1 u1.heap.size (some ⟨u0.heap.size, 0, none⟩) (fr [((x1 : Int), (x2 : Int))]) := by rw [hw]; exact row_item _ (_, _)
                clear hw hst
                refine wpAny_ready (rs := [9]) (by decide +kernel) (by simp) ?_
                refine AllReady.cons rfl (fun KK hK => ?_) AllReady.nil
                have hbs := hB1.size
                obtain ⟨A2, c2, u2, hrun, hown2, hg⟩ := run_append_f hown (n := m) (m := 1) (k := m + 1) (c2 := 1) (news := [((x1 : Int), (x2 : Int))]) HM.out rfl rfl hr1 (by have := HML.out; omega) hbs
                have hB2 : Below W.heap.size W u2 := hown.below hB1 (by rw [← HM.out]; exact hg) (Nat.le_refl _) hbs
                refine step_append_d (d := 44) rfl rfl (.tmp 35) (.tmp 43) 22 22 rfl (vs := .slice A' m c') (vx := .slice (some ⟨u0.heap.size, 0, none⟩) 1 1) (by simp [Act.eval]) (by simp [Act.eval]) hrun ?_
                refine hK _ _ ?_
                clear hK KK hrun
                simp only [Act.put, List.setIfInBounds_toArray, List.set_cons_zero, List.set_cons_succ]
                refine Reg.take_at (i := 10) (d := 4) (v := ?_) rfl rfl (by kernel_rfl) (by kernel_rfl) (by kernel_rfl) (fun _ _ _ h => h) (Or.inl ⟨by rfl, ?_⟩) ?_
                rotate_left 1
                · intro w; go_simp <;> with_reducible rfl
                simp only [Act.put, List.setIfInBounds_toArray, List.set_cons_zero, List.set_cons_succ]
                refine wpAny_done (by kernel_rfl) ?_ _
                go_wp2_with fail
                go_roundw
                case rel => exact ⟨j + 1, m + 1, A2, c2, by omega, by rw [HT.out, List.length_append, ← HM.out]; rfl, rfl, by go_num, by rw [HT.out]; exact hown2, hB2⟩
                case measure => simp [intOf]; omega
              refine AllReady.cons rfl (fun KK hK => ?_) AllReady.nil
              obtain ⟨hq1, hq2⟩ := HSL.out
              go_simp
              refine hK _ _ ?_
              clear hK KK hq1 hq2
              refine wpAny_ready (rs := [2]) (by decide +kernel) (by simp) ?_
              refine AllReady.cons rfl (fun KK hK => ?_) AllReady.nil
              obtain ⟨hq1, hq2⟩ := HSL.out
              go_simp
              refine hK _ _ ?_
              clear hK KK hq1 hq2
              refine wpAny_ready (rs := [3]) (by decide +kernel) (by simp) ?_
              refine AllReady.cons rfl (fun KK hK => ?_) AllReady.nil
              go_simp
              (with_reducible refine (HN1.out u0).mono ?_)
              rintro e w9 ⟨rfl, hw9⟩
              subst w9
              go_simp
              refine hK _ _ ?_
              clear hK KK
              refine wpAny_ready (rs := [6]) (by decide +kernel) (by simp) ?_
              refine AllReady.cons rfl (fun KK hK => ?_) AllReady.nil
              go_simp
              (with_reducible refine (HN2.out u0).mono ?_)
              rintro e w9 ⟨rfl, hw9⟩
              subst w9
              go_simp
              refine hK _ _ ?_
              clear hK KK
              refine Reg.take_at (i := 7) (d := 42) (v := ?_) rfl rfl (by kernel_rfl) (by kernel_rfl) (by kernel_rfl) (fun _ _ _ h => h) (Or.inl ⟨by rfl, ?_⟩) ?_
              rotate_left 1
              · intro w; go_simp <;> with_reducible rfl
              simp only [Act.put, List.setIfInBounds_toArray, List.set_cons_zero, List.set_cons_succ]
              refine wpAny_ready (rs := [8]) (by decide +kernel) (by simp) ?_
              refine AllReady.cons rfl (fun KK hK => ?_) AllReady.nil
              go_simp
              refine hK _ _ ?_
              clear hK KK
              obtain ⟨u1, hw⟩ : ∃ v, v = u0.alloc (.cells #[.int .i64 (x1 : Int), .int .i64 (x2 : Int)] 25) := ⟨_, rfl⟩
              rw [← hw]
              have hst : Below u0.heap.size u0 u1 := by rw [hw]; exact al _ _
              have hB1 := bstep hB0 hB0.size hst
              have hown := hown.later hst
              have hr1 : Row u1 u1.heap.size (some ⟨u0.heap.size, 0, none⟩) (fr [((x1 : Int), (x2 : Int))]) := by rw [hw]; exact row_item _ (_, _)
              clear hw hst
              refine wpAny_ready (rs := [9]) (by decide +kernel) (by simp) ?_
              refine AllReady.cons rfl (fun KK hK => ?_) AllReady.nil
              have hbs := hB1.size
              obtain ⟨A2, c2, u2, hrun, hown2, hg⟩ := run_append_f hown (n := m) (m := 1) (k := m + 1) (c2 := 1) (news := [((x1 : Int), (x2 : Int))]) HM.out rfl rfl hr1 (by have := HML.out; omega) hbs
              have hB2 : Below W.heap.size W u2 := hown.below hB1 (by rw [← HM.out]; exact hg) (Nat.le_refl _) hbs
              refine step_append_d (d := 44) rfl rfl (.tmp 35) (.tmp 43) 22 22 rfl (vs := .slice A' m c') (vx := .slice (some ⟨u0.heap.size, 0, none⟩) 1 1) (by simp [Act.eval]) (by simp [Act.eval]) hrun ?_
              refine hK _ _ ?_
              clear hK KK hrun
              simp only [Act.put, List.setIfInBounds_toArray, List.set_cons_zero, List.set_cons_succ]
              refine Reg.take_at (i := 10) (d := 4) (v := ?_) rfl rfl (by kernel_rfl) (by kernel_rfl) (by kernel_rfl) (fun _ _ _ h => h) (Or.inl ⟨by rfl, ?_⟩) ?_
              rotate_left 1
              · intro w; go_simp <;> with_reducible rfl
              simp only [Act.put, List.setIfInBounds_toArray, List.set_cons_zero, List.set_cons_succ]
              refine wpAny_done (by kernel_rfl) ?_ _
              go_wp2_with fail
              go_roundw
              case rel => exact ⟨j + 1, m + 1, A2, c2, by omega, by rw [HT.out, List.length_append, ← HM.out]; rfl, rfl, by go_num, by rw [HT.out]; exact hown2, hB2⟩
              case measure => simp [intOf]; omega
            · obtain rfl : j = lk.length := by omega
              have HE := Lib.hid (show (((cellsP ps).take (k + 1)).flatten.map par) = ((((cellsP ps).take k).flatten ++ lk.take lk.length).map par) by rw [HFT.out, List.take_length]; simp)
              have HNX2 := Lib.hid (HNX.out HFI.out HB.out)
              go_wp2_with fail
              go_roundw
              case rel => exact ⟨k + 1, m, A', c', by omega, by rw [HE.out]; exact HM.out, rfl, by go_num, by rw [HE.out]; exact hown, HNX2.out, hb2⟩
              case measure => simp [intOf]; omega
      · have HFI := Lib.hid hfill
        have hcall := filled_any wr lk.length ((k : Int) == (ps.length : Int) - 1) false (by
          refine iff_of_false (by decide) fun h => hfill ?_
          simp only [beq_iff_eq] at h
          rcases h with h | ⟨h1, h2, h3⟩
          · exact .inl h
          · exact .inr ⟨by omega, h2, h3⟩)
        clear hfill
        go_wp2_with (go_at_call 35; (with_reducible refine hcall.mono ?_); rintro e w9 ⟨rfl, hw9⟩; subst w9)
        go_ret2
        exact ⟨hb, .inr ⟨rfl, fun l hg h => HFI.out (HFL.out l hg h)⟩⟩
    · obtain rfl : k = ps.length := by omega
      have HE := Lib.hid (show (cellsP ps).take ps.length = cellsP ps by rw [List.take_of_length_le (by simp [cellsP])])
      have HM1 := HM0.out
      have HOW1 := HOW.out
      rw [HE.out] at HM1 HOW1
      have HEI := Lib.hid (show ∀ q ∈ (cellsP ps).flatten, q.size = 8 from fun q hq => by
        obtain ⟨cc, hcc, hq⟩ := List.mem_flatten.1 hq
        obtain ⟨p, hp, rfl⟩ := List.mem_map.1 hcc
        obtain ⟨i, hi, rfl⟩ := List.mem_iff_getElem.1 hp
        exact (HPRE.out i hi hi).2 q hq)
      have HSH := Lib.hid (show Shape (cellsP ps) from fun i hi => by
        have h1 : i < ps.length := by simpa [cellsP] using hi
        have := (HPRE.out i h1 h1).1
        simpa [cellsP] using this)
      have HLN := Lib.hid (show ((cellsP ps).flatten.map par).length ≤ 10000 by
        rw [List.length_map, List.length_flatten]
        have : ((cellsP ps).map List.length).sum ≤ 100 * ((cellsP ps).map List.length).length := by
          generalize hz : (cellsP ps).map List.length = zs
          have hzs : ∀ z ∈ zs, z ≤ 100 := fun z hz' => by
            rw [← hz] at hz'
            obtain ⟨c, hc, rfl⟩ := List.mem_map.1 hz'
            obtain ⟨p, hp, rfl⟩ := List.mem_map.1 hc
            exact HL2.out p hp
          clear hz
          induction zs with
          | nil => simp
          | cons z zs ih =>
            have h1 := hzs z (by simp)
            have h2 := ih fun y hy => hzs y (by simp [hy])
            simp; omega
        simp [cellsP] at this ⊢
        omega)
      have HPT := Lib.hid (texts_par HEI.out)
      have HUN := Lib.hid (show ∀ l, Gd l → PagesOf (cellsP ps) l → (cellsP ps).flatten.map par = l from fun l hg h => by rw [h.2]; exact par_texts hg.1)
      clear HE HM0 HOW
      generalize (cellsP ps).flatten.map par = acc at *
      subst HM1
      by_cases hg : Gd acc
      · have HG := Lib.hid hg
        have hcall := check_any wr A' acc.length c' acc true rfl HOW1.row (by have := HLN.out; omega) (iff_of_true rfl hg)
        clear hg
        go_wp2_with (go_at_call 13; (with_reducible refine hcall.mono ?_); rintro e w9 ⟨rfl, hb9⟩)
        go_ret2
        exact ⟨bstep hb hb.size hb9, .inl ⟨_, _, _, acc, rfl, rfl, HOW1.later hb9, HG.out, HSH.out, HPT.out.symm⟩⟩
      · have HG := Lib.hid hg
        have hcall := check_any wr A' acc.length c' acc false rfl HOW1.row (by have := HLN.out; omega) (iff_of_false (by decide) hg)
        clear hg
        go_wp2_with (go_at_call 13; (with_reducible refine hcall.mono ?_); rintro e w9 ⟨rfl, hb9⟩)
        go_ret2
        exact ⟨bstep hb hb.size hb9, .inr ⟨rfl, fun l hl h => HG.out (by rw [HUN.out l hl h]; exact hl)⟩⟩
end Go.Proofs.Ytffbmabhlgfjkaa.FreeOf
