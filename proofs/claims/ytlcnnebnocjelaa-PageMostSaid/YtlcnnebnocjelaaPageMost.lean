/- The walk of PageMost. -/
import Derived.Test.YtlcnnebnocjelaaPageRooms
import Derived.Test.YtlcnnebnocjelaaReg
import Derived.Test.YtlcnnebnocjelaaBlk
namespace Go.Proofs.Ytlcnnebnocjelaa.PageMost
open Go.RowKit Base PagePlain PageSmall PageBytes PageLay PagePut PageTold PageSame PageAwake PageRooms SumMem SumFill SumOf SumPlain Blk

theorem strs_one' (cs : List ByteArray) : ∀ u ∈ strs cs, u.oneCell' = true := by
  intro u hu
  obtain ⟨q, _, rfl⟩ := List.mem_map.1 hu
  rfl
def zt (n : Nat) : ByteArray := ⟨(List.replicate n (0 : UInt8)).toArray⟩
theorem zt_size (n : Nat) : (zt n).size = n := by show (List.replicate n (0 : UInt8)).toArray.size = n; simp
theorem conv_zeros {w : World} {b n : Nat} (h : At w b 5 (bv (List.replicate n 0)).toArray) : (convert 29 9 (.slice (some ⟨b, 0, none⟩) n n)).run Try.prog w = .ok (.string (zt n)) w := by
  have := conv_bytes (P := Try.prog) Try.underlying29 Try.underlying5 Try.underlying9 n (Arr.row h)
  rw [List.length_replicate] at this
  exact this
set_option maxRecDepth 100000 in
set_option maxHeartbeats 6400000 in
theorem PageMost_walk (A : Option Addr) (c : Nat) (cs : List ByteArray) (W : World) (hA : Row W W.heap.size A (strs cs)) (hx : cs.length ≤ maxLen) :
    Calls Try.prog 9 #[.slice A cs.length c] W (Law W) := by
  have hnot : ∀ (x : Bool) (w : World), (Op.unary .not (.bool x)).run Try.prog w = .ok (.bool (!x)) w := fun _ _ => rfl
  have hrA : ∀ x, Below W.heap.size W x → Row x x.heap.size A (strs cs) := fun x h => hA.belowSize h
  have hfe := fun (x : World) (h : Below W.heap.size W x) => few_cells x cs A c (hrA x h) hx
  unfold maxLen at hx
  clear hA
  by_cases h1 : Few cs
  · have hfe := fun (x : World) (h : Below W.heap.size W x) => hfe x h true ⟨fun _ => h1, fun _ => rfl⟩
    by_cases h2 : cs.length ≤ 100
    · have hz : ∀ q ∈ cs, q.size ≤ 1000 := fun q hq => Nat.le_trans (h1.2 q hq) (by omega)
      have hfi := fun (x : World) (h : Below W.heap.size W x) => fits_any x A cs.length c cs rfl (hrA x h) (by omega) hz
      by_cases h3 : room cs ≤ 236
      · rw [decide_eq_true h3] at hfi
        have hrm := fun (x : World) (h : Below W.heap.size W x) => room_any x A cs.length c cs rfl (hrA x h) (by omega) hz
        by_cases h4 : room cs + 2 ≤ 236
        · obtain ⟨n, hn⟩ : ∃ n, room cs + 2 + n = 236 := ⟨236 - (room cs + 2), by omega⟩
          have hnn : (236 : Int) - (room cs : Nat) - 2 = (n : Int) := by omega
          have HN := Lib.hid hn
          have hn1 : n ≤ 236 := by omega
          have HRA := Lib.hid hrA
          have HZ := Lib.hid hz
          have hmk1 := fun w : World => mk_run w n (by omega)
          have hmk2 := fun w : World => mk_run w (n + 1) (by omega)
          rw [show ((n + 1 : Nat) : Int) = (n : Int) + 1 by omega] at hmk2
          have H1 := Lib.hid h1
          have hr1 : room cs ≤ 236 := h3
          clear h1 hn h3 h4 hrA hz
          generalize hrr : room cs = r at *
          have HRR := Lib.hid hrr
          clear hrr
          go_enter Try.func9, Try.ntmps9
          go_wp2_with fail
          refine (new_g _).mono ?_
          rintro e w1 ⟨g, rfl, hg, hx1, s1, b1⟩
          go_wp2_with fail
          refine (awakeL b1).mono ?_
          rintro e w2 ⟨rfl, b2, b3⟩
          have s2 := s1.below b2
          have hx2 : g < w2.heap.size := Nat.lt_of_lt_of_le hx1 b2.size
          clear s1 b1 b2 hx1
          go_wp2_with fail
          refine (hfe w2 b3).mono ?_
          rintro e w3 ⟨rfl, b4⟩
          have b5 := Below.step b3 b4
          have s3 := s2.below b4
          have hx3 : g < w3.heap.size := Nat.lt_of_lt_of_le hx2 b4.size
          clear s2 b3 b4 hx2
          go_wp2_with fail
          refine (hfi w3 b5).mono ?_
          rintro e w4 ⟨rfl, rfl⟩
          go_wp2_with fail
          refine (hrm w3 b5).mono ?_
          rintro e w4 ⟨rfl, rfl⟩
          clear hfe hfi hrm
          have HAS := Lib.hid (And.intro hmk1 hmk2)
          clear hmk2
          go_upto_region 7 with fail
          go_cut [5] from 41 to 48 (fun s5 wx => ∃ (A4 : Option Addr) (c4 : Nat), s5 = .slice A4 (cs.length + 1) c4 ∧ Own wx w3.heap.size 9 A4 c4 (strs (cs ++ [zt n])) ∧ Below w3.heap.size w3 wx)
          case first =>
            refine wp_region_any (by kernel_rfl) ?_
            change wpAny _ _ _ _ _ _ _ (World.drew _)
            obtain ⟨u0, hu0⟩ : ∃ v, v = World.drew w3 := ⟨_, rfl⟩
            rw [← hu0]
            have hB0 : Below w3.heap.size w3 u0 := by rw [hu0]; exact (Below.refl _ _).drew
            clear hu0
            refine Reg.take_at (i := 1) (d := 42) (v := ?_) rfl rfl (by kernel_rfl) (by kernel_rfl) (by kernel_rfl) (fun _ _ _ h => h) (Or.inl ⟨by rfl, ?_⟩) ?_
            rotate_left 1
            · intro w; go_simp <;> with_reducible rfl
            simp only [Act.put, List.setIfInBounds_toArray, List.set_cons_zero, List.set_cons_succ]
            refine Reg.take_at (i := 3) (d := 44) (v := ?_) rfl rfl (by kernel_rfl) (by kernel_rfl) (by kernel_rfl) (fun _ _ _ h => h) (Or.inl ⟨by rfl, ?_⟩) ?_
            rotate_left 1
            · intro w; go_simp <;> with_reducible rfl
            simp only [Act.put, List.setIfInBounds_toArray, List.set_cons_zero, List.set_cons_succ]
            refine wpAny_ready (rs := [0, 4]) (by decide +kernel) (by simp) ?_
            refine AllReady.cons rfl (fun KK hK => ?_) ?_
            · go_simp
              refine hK _ _ ?_
              clear hK KK
              obtain ⟨u1, hw⟩ : ∃ v, v = (u0.alloc (.cells #[] 9)) := ⟨_, rfl⟩
              rw [← hw]
              have hst0 : Below u0.heap.size u0 u1 := by rw [hw]; exact (Below.refl _ _).alloc (Nat.le_refl _) _
              have hlt0 : u0.heap.size < u1.heap.size := by rw [hw]; simp
              have own0 : Own u1 w3.heap.size 9 (some ⟨u0.heap.size, 0, none⟩) 0 [] := by rw [hw]; exact Own.empty u0 _ hB0.size
              have hB1 := Below.step hB0 hst0
              clear hw
              refine wpAny_ready (rs := [2, 4]) (by decide +kernel) (by simp) ?_
              refine AllReady.cons rfl (fun KK hK => ?_) ?_
              · obtain ⟨A3, c3, u2, hrun, own2, hg⟩ := run_append_row (P := Try.prog) 22 el_strs (c2 := c) own0 (HRA.out _ (Below.step b5 hB1)) (strs_one' cs) (by simp [strs, maxLen]; omega) (by simp [strs]; omega) hB1.size
                have hrun' : (Builtin.append_ #[22, 22] 22 #[.slice (some ⟨u0.heap.size, 0, none⟩) 0 0, .slice A cs.length c]).run Try.prog u1 = .ok (.slice A3 cs.length c3) u2 := by simpa [strs] using hrun
                have own2 : Own u2 w3.heap.size 9 A3 c3 (strs cs) := own2
                have hB2 : Below w3.heap.size w3 u2 := own0.below hB1 hg (Nat.le_refl _) hB1.size
                have hlt1 : u1.heap.size ≤ u2.heap.size := hg.size
                refine step_append_d (d := 43) rfl rfl (.tmp 41) (.tmp 42) 22 22 rfl (vs := .slice (some ⟨u0.heap.size, 0, none⟩) 0 0) (vx := .slice A cs.length c) (by simp [Act.eval]) (by simp [Act.eval]) hrun' ?_
                refine hK _ _ ?_
                clear hK KK hrun hrun' own0 hg
                simp only [Act.put, List.setIfInBounds_toArray, List.set_cons_zero, List.set_cons_succ]
                refine wpAny_ready (rs := [4]) (by decide +kernel) (by simp) ?_
                refine AllReady.cons rfl (fun KK hK => ?_) AllReady.nil
                go_simp
                refine hK _ _ ?_
                clear hK KK
                obtain ⟨u3, hw⟩ : ∃ v, v = mk u2 n := ⟨_, rfl⟩
                rw [← hw]
                have hst2 : Below u2.heap.size u2 u3 := by rw [hw]; exact mk_below _ _
                have hlt2 : u2.heap.size < u3.heap.size := by rw [hw, mk_size]; omega
                have hy : At u3 u2.heap.size 5 (bv (List.replicate (n) 0)).toArray := by rw [hw]; exact mk_at _ _
                have hB3 := Below.step hB2 hst2
                have own2 := own2.later hst2
                clear hw
                refine wpAny_ready (rs := [5]) (by decide +kernel) (by simp) ?_
                refine AllReady.cons rfl (fun KK hK => ?_) AllReady.nil
                have hcv := conv_zeros hy
                go_simp
                refine hK _ _ ?_
                clear hK KK hcv hy
                refine wpAny_ready (rs := [6]) (by decide +kernel) (by simp) ?_
                refine AllReady.cons rfl (fun KK hK => ?_) AllReady.nil
                go_simp
                refine hK _ _ ?_
                clear hK KK
                obtain ⟨u4, hw⟩ : ∃ v, v = (u3.alloc (.cells #[.string (zt n)] 9)) := ⟨_, rfl⟩
                rw [← hw]
                have hst3 : Below u3.heap.size u3 u4 := by rw [hw]; exact (Below.refl _ _).alloc (Nat.le_refl _) _
                have hlt3 : u3.heap.size < u4.heap.size := by rw [hw]; simp
                have hz : At u4 u3.heap.size 9 #[.string (zt n)] := by rw [hw]; exact heap_alloc_new _ _
                have hB4 := Below.step hB3 hst3
                have own2 := own2.later hst3
                clear hw
                refine wpAny_ready (rs := [7]) (by decide +kernel) (by simp) ?_
                refine AllReady.cons rfl (fun KK hK => ?_) AllReady.nil
                obtain ⟨A4, c4, u5, hrun, own4, hg⟩ := run_append_row (P := Try.prog) 22 el_strs (c2 := 1) own2 (row_of_block hz) (by simp [Value.oneCell']) (by simp [strs, maxLen]; omega) (by simp [strs]; omega) hB4.size
                have hrun' : (Builtin.append_ #[22, 22] 22 #[.slice A3 cs.length c3, .slice (some ⟨u3.heap.size, 0, none⟩) 1 1]).run Try.prog u4 = .ok (.slice A4 (cs.length + 1) c4) u5 := by simpa [strs] using hrun
                have own4 : Own u5 w3.heap.size 9 A4 c4 (strs (cs ++ [(zt n)])) := by simpa [strs] using own4
                have hB5 : Below w3.heap.size w3 u5 := own2.below hB4 hg (Nat.le_refl _) hB4.size
                refine step_append_d (d := 48) rfl rfl (.tmp 43) (.tmp 47) 22 22 rfl (vs := .slice A3 cs.length c3) (vx := .slice (some ⟨u3.heap.size, 0, none⟩) 1 1) (by simp [Act.eval]) (by simp [Act.eval]) hrun' ?_
                refine hK _ _ ?_
                clear hK KK hrun hrun' own2 hg hz
                simp only [Act.put, List.setIfInBounds_toArray, List.set_cons_zero, List.set_cons_succ]
                refine Reg.take_at (i := 8) (d := 5) (v := ?_) rfl rfl (by kernel_rfl) (by kernel_rfl) (by kernel_rfl) (fun _ _ _ h => h) (Or.inl ⟨by rfl, ?_⟩) ?_
                rotate_left 1
                · intro w; go_simp <;> with_reducible rfl
                simp only [Act.put, List.setIfInBounds_toArray, List.set_cons_zero, List.set_cons_succ]
                refine wpAny_done (by kernel_rfl) ?_ _
                go_wp2_with fail
                go_meet
                exact ⟨A4, c4, rfl, own4, hB5⟩
              refine AllReady.cons rfl (fun KK hK => ?_) AllReady.nil
              go_simp
              refine hK _ _ ?_
              clear hK KK
              obtain ⟨u2, hw⟩ : ∃ v, v = mk u1 n := ⟨_, rfl⟩
              rw [← hw]
              have hst1 : Below u1.heap.size u1 u2 := by rw [hw]; exact mk_below _ _
              have hlt1 : u1.heap.size < u2.heap.size := by rw [hw, mk_size]; omega
              have hy : At u2 u1.heap.size 5 (bv (List.replicate (n) 0)).toArray := by rw [hw]; exact mk_at _ _
              have hB2 := Below.step hB1 hst1
              have own0 := own0.later hst1
              clear hw
              refine wpAny_ready (rs := [2, 5]) (by decide +kernel) (by simp) ?_
              refine AllReady.cons rfl (fun KK hK => ?_) ?_
              · have hny : some u1.heap.size ≠ (Value.slice (some ⟨u0.heap.size, 0, none⟩) ([] : List Value).length 0).ownBlock := by simp [Value.ownBlock]; omega
                obtain ⟨A3, c3, u3, hrun, own2, hg⟩ := run_append_row (P := Try.prog) 22 el_strs (c2 := c) own0 (HRA.out _ (Below.step b5 hB2)) (strs_one' cs) (by simp [strs, maxLen]; omega) (by simp [strs]; omega) hB2.size
                have hrun' : (Builtin.append_ #[22, 22] 22 #[.slice (some ⟨u0.heap.size, 0, none⟩) 0 0, .slice A cs.length c]).run Try.prog u2 = .ok (.slice A3 cs.length c3) u3 := by simpa [strs] using hrun
                have own2 : Own u3 w3.heap.size 9 A3 c3 (strs cs) := own2
                have hB3 : Below w3.heap.size w3 u3 := own0.below hB2 hg (Nat.le_refl _) hB2.size
                have hlt2 : u2.heap.size ≤ u3.heap.size := hg.size
                have hy := At.grown hy hg hny
                refine step_append_d (d := 43) rfl rfl (.tmp 41) (.tmp 42) 22 22 rfl (vs := .slice (some ⟨u0.heap.size, 0, none⟩) 0 0) (vx := .slice A cs.length c) (by simp [Act.eval]) (by simp [Act.eval]) hrun' ?_
                refine hK _ _ ?_
                clear hK KK hrun hrun' own0 hg
                simp only [Act.put, List.setIfInBounds_toArray, List.set_cons_zero, List.set_cons_succ]
                refine wpAny_ready (rs := [5]) (by decide +kernel) (by simp) ?_
                refine AllReady.cons rfl (fun KK hK => ?_) AllReady.nil
                have hcv := conv_zeros hy
                go_simp
                refine hK _ _ ?_
                clear hK KK hcv hy
                refine wpAny_ready (rs := [6]) (by decide +kernel) (by simp) ?_
                refine AllReady.cons rfl (fun KK hK => ?_) AllReady.nil
                go_simp
                refine hK _ _ ?_
                clear hK KK
                obtain ⟨u4, hw⟩ : ∃ v, v = (u3.alloc (.cells #[.string (zt n)] 9)) := ⟨_, rfl⟩
                rw [← hw]
                have hst3 : Below u3.heap.size u3 u4 := by rw [hw]; exact (Below.refl _ _).alloc (Nat.le_refl _) _
                have hlt3 : u3.heap.size < u4.heap.size := by rw [hw]; simp
                have hz : At u4 u3.heap.size 9 #[.string (zt n)] := by rw [hw]; exact heap_alloc_new _ _
                have hB4 := Below.step hB3 hst3
                have own2 := own2.later hst3
                clear hw
                refine wpAny_ready (rs := [7]) (by decide +kernel) (by simp) ?_
                refine AllReady.cons rfl (fun KK hK => ?_) AllReady.nil
                obtain ⟨A4, c4, u5, hrun, own4, hg⟩ := run_append_row (P := Try.prog) 22 el_strs (c2 := 1) own2 (row_of_block hz) (by simp [Value.oneCell']) (by simp [strs, maxLen]; omega) (by simp [strs]; omega) hB4.size
                have hrun' : (Builtin.append_ #[22, 22] 22 #[.slice A3 cs.length c3, .slice (some ⟨u3.heap.size, 0, none⟩) 1 1]).run Try.prog u4 = .ok (.slice A4 (cs.length + 1) c4) u5 := by simpa [strs] using hrun
                have own4 : Own u5 w3.heap.size 9 A4 c4 (strs (cs ++ [(zt n)])) := by simpa [strs] using own4
                have hB5 : Below w3.heap.size w3 u5 := own2.below hB4 hg (Nat.le_refl _) hB4.size
                refine step_append_d (d := 48) rfl rfl (.tmp 43) (.tmp 47) 22 22 rfl (vs := .slice A3 cs.length c3) (vx := .slice (some ⟨u3.heap.size, 0, none⟩) 1 1) (by simp [Act.eval]) (by simp [Act.eval]) hrun' ?_
                refine hK _ _ ?_
                clear hK KK hrun hrun' own2 hg hz
                simp only [Act.put, List.setIfInBounds_toArray, List.set_cons_zero, List.set_cons_succ]
                refine Reg.take_at (i := 8) (d := 5) (v := ?_) rfl rfl (by kernel_rfl) (by kernel_rfl) (by kernel_rfl) (fun _ _ _ h => h) (Or.inl ⟨by rfl, ?_⟩) ?_
                rotate_left 1
                · intro w; go_simp <;> with_reducible rfl
                simp only [Act.put, List.setIfInBounds_toArray, List.set_cons_zero, List.set_cons_succ]
                refine wpAny_done (by kernel_rfl) ?_ _
                go_wp2_with fail
                go_meet
                exact ⟨A4, c4, rfl, own4, hB5⟩
              refine AllReady.cons rfl (fun KK hK => ?_) AllReady.nil
              have hcv := conv_zeros hy
              go_simp
              refine hK _ _ ?_
              clear hK KK hcv hy
              refine wpAny_ready (rs := [2, 6]) (by decide +kernel) (by simp) ?_
              refine AllReady.cons rfl (fun KK hK => ?_) ?_
              · obtain ⟨A3, c3, u3, hrun, own2, hg⟩ := run_append_row (P := Try.prog) 22 el_strs (c2 := c) own0 (HRA.out _ (Below.step b5 hB2)) (strs_one' cs) (by simp [strs, maxLen]; omega) (by simp [strs]; omega) hB2.size
                have hrun' : (Builtin.append_ #[22, 22] 22 #[.slice (some ⟨u0.heap.size, 0, none⟩) 0 0, .slice A cs.length c]).run Try.prog u2 = .ok (.slice A3 cs.length c3) u3 := by simpa [strs] using hrun
                have own2 : Own u3 w3.heap.size 9 A3 c3 (strs cs) := own2
                have hB3 : Below w3.heap.size w3 u3 := own0.below hB2 hg (Nat.le_refl _) hB2.size
                have hlt2 : u2.heap.size ≤ u3.heap.size := hg.size
                refine step_append_d (d := 43) rfl rfl (.tmp 41) (.tmp 42) 22 22 rfl (vs := .slice (some ⟨u0.heap.size, 0, none⟩) 0 0) (vx := .slice A cs.length c) (by simp [Act.eval]) (by simp [Act.eval]) hrun' ?_
                refine hK _ _ ?_
                clear hK KK hrun hrun' own0 hg
                simp only [Act.put, List.setIfInBounds_toArray, List.set_cons_zero, List.set_cons_succ]
                refine wpAny_ready (rs := [6]) (by decide +kernel) (by simp) ?_
                refine AllReady.cons rfl (fun KK hK => ?_) AllReady.nil
                go_simp
                refine hK _ _ ?_
                clear hK KK
                obtain ⟨u4, hw⟩ : ∃ v, v = (u3.alloc (.cells #[.string (zt n)] 9)) := ⟨_, rfl⟩
                rw [← hw]
                have hst3 : Below u3.heap.size u3 u4 := by rw [hw]; exact (Below.refl _ _).alloc (Nat.le_refl _) _
                have hlt3 : u3.heap.size < u4.heap.size := by rw [hw]; simp
                have hz : At u4 u3.heap.size 9 #[.string (zt n)] := by rw [hw]; exact heap_alloc_new _ _
                have hB4 := Below.step hB3 hst3
                have own2 := own2.later hst3
                clear hw
                refine wpAny_ready (rs := [7]) (by decide +kernel) (by simp) ?_
                refine AllReady.cons rfl (fun KK hK => ?_) AllReady.nil
                obtain ⟨A4, c4, u5, hrun, own4, hg⟩ := run_append_row (P := Try.prog) 22 el_strs (c2 := 1) own2 (row_of_block hz) (by simp [Value.oneCell']) (by simp [strs, maxLen]; omega) (by simp [strs]; omega) hB4.size
                have hrun' : (Builtin.append_ #[22, 22] 22 #[.slice A3 cs.length c3, .slice (some ⟨u3.heap.size, 0, none⟩) 1 1]).run Try.prog u4 = .ok (.slice A4 (cs.length + 1) c4) u5 := by simpa [strs] using hrun
                have own4 : Own u5 w3.heap.size 9 A4 c4 (strs (cs ++ [(zt n)])) := by simpa [strs] using own4
                have hB5 : Below w3.heap.size w3 u5 := own2.below hB4 hg (Nat.le_refl _) hB4.size
                refine step_append_d (d := 48) rfl rfl (.tmp 43) (.tmp 47) 22 22 rfl (vs := .slice A3 cs.length c3) (vx := .slice (some ⟨u3.heap.size, 0, none⟩) 1 1) (by simp [Act.eval]) (by simp [Act.eval]) hrun' ?_
                refine hK _ _ ?_
                clear hK KK hrun hrun' own2 hg hz
                simp only [Act.put, List.setIfInBounds_toArray, List.set_cons_zero, List.set_cons_succ]
                refine Reg.take_at (i := 8) (d := 5) (v := ?_) rfl rfl (by kernel_rfl) (by kernel_rfl) (by kernel_rfl) (fun _ _ _ h => h) (Or.inl ⟨by rfl, ?_⟩) ?_
                rotate_left 1
                · intro w; go_simp <;> with_reducible rfl
                simp only [Act.put, List.setIfInBounds_toArray, List.set_cons_zero, List.set_cons_succ]
                refine wpAny_done (by kernel_rfl) ?_ _
                go_wp2_with fail
                go_meet
                exact ⟨A4, c4, rfl, own4, hB5⟩
              refine AllReady.cons rfl (fun KK hK => ?_) AllReady.nil
              go_simp
              refine hK _ _ ?_
              clear hK KK
              obtain ⟨u3, hw⟩ : ∃ v, v = (u2.alloc (.cells #[.string (zt n)] 9)) := ⟨_, rfl⟩
              rw [← hw]
              have hst2 : Below u2.heap.size u2 u3 := by rw [hw]; exact (Below.refl _ _).alloc (Nat.le_refl _) _
              have hlt2 : u2.heap.size < u3.heap.size := by rw [hw]; simp
              have hz : At u3 u2.heap.size 9 #[.string (zt n)] := by rw [hw]; exact heap_alloc_new _ _
              have hB3 := Below.step hB2 hst2
              have own0 := own0.later hst2
              clear hw
              refine wpAny_ready (rs := [2]) (by decide +kernel) (by simp) ?_
              refine AllReady.cons rfl (fun KK hK => ?_) AllReady.nil
              have hnz : some u2.heap.size ≠ (Value.slice (some ⟨u0.heap.size, 0, none⟩) ([] : List Value).length 0).ownBlock := by simp [Value.ownBlock]; omega
              obtain ⟨A3, c3, u4, hrun, own2, hg⟩ := run_append_row (P := Try.prog) 22 el_strs (c2 := c) own0 (HRA.out _ (Below.step b5 hB3)) (strs_one' cs) (by simp [strs, maxLen]; omega) (by simp [strs]; omega) hB3.size
              have hrun' : (Builtin.append_ #[22, 22] 22 #[.slice (some ⟨u0.heap.size, 0, none⟩) 0 0, .slice A cs.length c]).run Try.prog u3 = .ok (.slice A3 cs.length c3) u4 := by simpa [strs] using hrun
              have own2 : Own u4 w3.heap.size 9 A3 c3 (strs cs) := own2
              have hB4 : Below w3.heap.size w3 u4 := own0.below hB3 hg (Nat.le_refl _) hB3.size
              have hlt3 : u3.heap.size ≤ u4.heap.size := hg.size
              have hz := At.grown hz hg hnz
              refine step_append_d (d := 43) rfl rfl (.tmp 41) (.tmp 42) 22 22 rfl (vs := .slice (some ⟨u0.heap.size, 0, none⟩) 0 0) (vx := .slice A cs.length c) (by simp [Act.eval]) (by simp [Act.eval]) hrun' ?_
              refine hK _ _ ?_
              clear hK KK hrun hrun' own0 hg
              simp only [Act.put, List.setIfInBounds_toArray, List.set_cons_zero, List.set_cons_succ]
              refine wpAny_ready (rs := [7]) (by decide +kernel) (by simp) ?_
              refine AllReady.cons rfl (fun KK hK => ?_) AllReady.nil
              obtain ⟨A4, c4, u5, hrun, own4, hg⟩ := run_append_row (P := Try.prog) 22 el_strs (c2 := 1) own2 (row_of_block hz) (by simp [Value.oneCell']) (by simp [strs, maxLen]; omega) (by simp [strs]; omega) hB4.size
              have hrun' : (Builtin.append_ #[22, 22] 22 #[.slice A3 cs.length c3, .slice (some ⟨u2.heap.size, 0, none⟩) 1 1]).run Try.prog u4 = .ok (.slice A4 (cs.length + 1) c4) u5 := by simpa [strs] using hrun
              have own4 : Own u5 w3.heap.size 9 A4 c4 (strs (cs ++ [(zt n)])) := by simpa [strs] using own4
              have hB5 : Below w3.heap.size w3 u5 := own2.below hB4 hg (Nat.le_refl _) hB4.size
              refine step_append_d (d := 48) rfl rfl (.tmp 43) (.tmp 47) 22 22 rfl (vs := .slice A3 cs.length c3) (vx := .slice (some ⟨u2.heap.size, 0, none⟩) 1 1) (by simp [Act.eval]) (by simp [Act.eval]) hrun' ?_
              refine hK _ _ ?_
              clear hK KK hrun hrun' own2 hg hz
              simp only [Act.put, List.setIfInBounds_toArray, List.set_cons_zero, List.set_cons_succ]
              refine Reg.take_at (i := 8) (d := 5) (v := ?_) rfl rfl (by kernel_rfl) (by kernel_rfl) (by kernel_rfl) (fun _ _ _ h => h) (Or.inl ⟨by rfl, ?_⟩) ?_
              rotate_left 1
              · intro w; go_simp <;> with_reducible rfl
              simp only [Act.put, List.setIfInBounds_toArray, List.set_cons_zero, List.set_cons_succ]
              refine wpAny_done (by kernel_rfl) ?_ _
              go_wp2_with fail
              go_meet
              exact ⟨A4, c4, rfl, own4, hB5⟩
            refine AllReady.cons rfl (fun KK hK => ?_) AllReady.nil
            go_simp
            refine hK _ _ ?_
            clear hK KK
            obtain ⟨u1, hw⟩ : ∃ v, v = mk u0 n := ⟨_, rfl⟩
            rw [← hw]
            have hst0 : Below u0.heap.size u0 u1 := by rw [hw]; exact mk_below _ _
            have hlt0 : u0.heap.size < u1.heap.size := by rw [hw, mk_size]; omega
            have hy : At u1 u0.heap.size 5 (bv (List.replicate (n) 0)).toArray := by rw [hw]; exact mk_at _ _
            have hB1 := Below.step hB0 hst0
            clear hw
            refine wpAny_ready (rs := [0, 5]) (by decide +kernel) (by simp) ?_
            refine AllReady.cons rfl (fun KK hK => ?_) ?_
            · go_simp
              refine hK _ _ ?_
              clear hK KK
              obtain ⟨u2, hw⟩ : ∃ v, v = (u1.alloc (.cells #[] 9)) := ⟨_, rfl⟩
              rw [← hw]
              have hst1 : Below u1.heap.size u1 u2 := by rw [hw]; exact (Below.refl _ _).alloc (Nat.le_refl _) _
              have hlt1 : u1.heap.size < u2.heap.size := by rw [hw]; simp
              have own0 : Own u2 w3.heap.size 9 (some ⟨u1.heap.size, 0, none⟩) 0 [] := by rw [hw]; exact Own.empty u1 _ hB1.size
              have hB2 := Below.step hB1 hst1
              have hy := at_below hy hst1
              clear hw
              refine wpAny_ready (rs := [2, 5]) (by decide +kernel) (by simp) ?_
              refine AllReady.cons rfl (fun KK hK => ?_) ?_
              · have hny : some u0.heap.size ≠ (Value.slice (some ⟨u1.heap.size, 0, none⟩) ([] : List Value).length 0).ownBlock := by simp [Value.ownBlock]; omega
                obtain ⟨A3, c3, u3, hrun, own2, hg⟩ := run_append_row (P := Try.prog) 22 el_strs (c2 := c) own0 (HRA.out _ (Below.step b5 hB2)) (strs_one' cs) (by simp [strs, maxLen]; omega) (by simp [strs]; omega) hB2.size
                have hrun' : (Builtin.append_ #[22, 22] 22 #[.slice (some ⟨u1.heap.size, 0, none⟩) 0 0, .slice A cs.length c]).run Try.prog u2 = .ok (.slice A3 cs.length c3) u3 := by simpa [strs] using hrun
                have own2 : Own u3 w3.heap.size 9 A3 c3 (strs cs) := own2
                have hB3 : Below w3.heap.size w3 u3 := own0.below hB2 hg (Nat.le_refl _) hB2.size
                have hlt2 : u2.heap.size ≤ u3.heap.size := hg.size
                have hy := At.grown hy hg hny
                refine step_append_d (d := 43) rfl rfl (.tmp 41) (.tmp 42) 22 22 rfl (vs := .slice (some ⟨u1.heap.size, 0, none⟩) 0 0) (vx := .slice A cs.length c) (by simp [Act.eval]) (by simp [Act.eval]) hrun' ?_
                refine hK _ _ ?_
                clear hK KK hrun hrun' own0 hg
                simp only [Act.put, List.setIfInBounds_toArray, List.set_cons_zero, List.set_cons_succ]
                refine wpAny_ready (rs := [5]) (by decide +kernel) (by simp) ?_
                refine AllReady.cons rfl (fun KK hK => ?_) AllReady.nil
                have hcv := conv_zeros hy
                go_simp
                refine hK _ _ ?_
                clear hK KK hcv hy
                refine wpAny_ready (rs := [6]) (by decide +kernel) (by simp) ?_
                refine AllReady.cons rfl (fun KK hK => ?_) AllReady.nil
                go_simp
                refine hK _ _ ?_
                clear hK KK
                obtain ⟨u4, hw⟩ : ∃ v, v = (u3.alloc (.cells #[.string (zt n)] 9)) := ⟨_, rfl⟩
                rw [← hw]
                have hst3 : Below u3.heap.size u3 u4 := by rw [hw]; exact (Below.refl _ _).alloc (Nat.le_refl _) _
                have hlt3 : u3.heap.size < u4.heap.size := by rw [hw]; simp
                have hz : At u4 u3.heap.size 9 #[.string (zt n)] := by rw [hw]; exact heap_alloc_new _ _
                have hB4 := Below.step hB3 hst3
                have own2 := own2.later hst3
                clear hw
                refine wpAny_ready (rs := [7]) (by decide +kernel) (by simp) ?_
                refine AllReady.cons rfl (fun KK hK => ?_) AllReady.nil
                obtain ⟨A4, c4, u5, hrun, own4, hg⟩ := run_append_row (P := Try.prog) 22 el_strs (c2 := 1) own2 (row_of_block hz) (by simp [Value.oneCell']) (by simp [strs, maxLen]; omega) (by simp [strs]; omega) hB4.size
                have hrun' : (Builtin.append_ #[22, 22] 22 #[.slice A3 cs.length c3, .slice (some ⟨u3.heap.size, 0, none⟩) 1 1]).run Try.prog u4 = .ok (.slice A4 (cs.length + 1) c4) u5 := by simpa [strs] using hrun
                have own4 : Own u5 w3.heap.size 9 A4 c4 (strs (cs ++ [(zt n)])) := by simpa [strs] using own4
                have hB5 : Below w3.heap.size w3 u5 := own2.below hB4 hg (Nat.le_refl _) hB4.size
                refine step_append_d (d := 48) rfl rfl (.tmp 43) (.tmp 47) 22 22 rfl (vs := .slice A3 cs.length c3) (vx := .slice (some ⟨u3.heap.size, 0, none⟩) 1 1) (by simp [Act.eval]) (by simp [Act.eval]) hrun' ?_
                refine hK _ _ ?_
                clear hK KK hrun hrun' own2 hg hz
                simp only [Act.put, List.setIfInBounds_toArray, List.set_cons_zero, List.set_cons_succ]
                refine Reg.take_at (i := 8) (d := 5) (v := ?_) rfl rfl (by kernel_rfl) (by kernel_rfl) (by kernel_rfl) (fun _ _ _ h => h) (Or.inl ⟨by rfl, ?_⟩) ?_
                rotate_left 1
                · intro w; go_simp <;> with_reducible rfl
                simp only [Act.put, List.setIfInBounds_toArray, List.set_cons_zero, List.set_cons_succ]
                refine wpAny_done (by kernel_rfl) ?_ _
                go_wp2_with fail
                go_meet
                exact ⟨A4, c4, rfl, own4, hB5⟩
              refine AllReady.cons rfl (fun KK hK => ?_) AllReady.nil
              have hcv := conv_zeros hy
              go_simp
              refine hK _ _ ?_
              clear hK KK hcv hy
              refine wpAny_ready (rs := [2, 6]) (by decide +kernel) (by simp) ?_
              refine AllReady.cons rfl (fun KK hK => ?_) ?_
              · obtain ⟨A3, c3, u3, hrun, own2, hg⟩ := run_append_row (P := Try.prog) 22 el_strs (c2 := c) own0 (HRA.out _ (Below.step b5 hB2)) (strs_one' cs) (by simp [strs, maxLen]; omega) (by simp [strs]; omega) hB2.size
                have hrun' : (Builtin.append_ #[22, 22] 22 #[.slice (some ⟨u1.heap.size, 0, none⟩) 0 0, .slice A cs.length c]).run Try.prog u2 = .ok (.slice A3 cs.length c3) u3 := by simpa [strs] using hrun
                have own2 : Own u3 w3.heap.size 9 A3 c3 (strs cs) := own2
                have hB3 : Below w3.heap.size w3 u3 := own0.below hB2 hg (Nat.le_refl _) hB2.size
                have hlt2 : u2.heap.size ≤ u3.heap.size := hg.size
                refine step_append_d (d := 43) rfl rfl (.tmp 41) (.tmp 42) 22 22 rfl (vs := .slice (some ⟨u1.heap.size, 0, none⟩) 0 0) (vx := .slice A cs.length c) (by simp [Act.eval]) (by simp [Act.eval]) hrun' ?_
                refine hK _ _ ?_
                clear hK KK hrun hrun' own0 hg
                simp only [Act.put, List.setIfInBounds_toArray, List.set_cons_zero, List.set_cons_succ]
                refine wpAny_ready (rs := [6]) (by decide +kernel) (by simp) ?_
                refine AllReady.cons rfl (fun KK hK => ?_) AllReady.nil
                go_simp
                refine hK _ _ ?_
                clear hK KK
                obtain ⟨u4, hw⟩ : ∃ v, v = (u3.alloc (.cells #[.string (zt n)] 9)) := ⟨_, rfl⟩
                rw [← hw]
                have hst3 : Below u3.heap.size u3 u4 := by rw [hw]; exact (Below.refl _ _).alloc (Nat.le_refl _) _
                have hlt3 : u3.heap.size < u4.heap.size := by rw [hw]; simp
                have hz : At u4 u3.heap.size 9 #[.string (zt n)] := by rw [hw]; exact heap_alloc_new _ _
                have hB4 := Below.step hB3 hst3
                have own2 := own2.later hst3
                clear hw
                refine wpAny_ready (rs := [7]) (by decide +kernel) (by simp) ?_
                refine AllReady.cons rfl (fun KK hK => ?_) AllReady.nil
                obtain ⟨A4, c4, u5, hrun, own4, hg⟩ := run_append_row (P := Try.prog) 22 el_strs (c2 := 1) own2 (row_of_block hz) (by simp [Value.oneCell']) (by simp [strs, maxLen]; omega) (by simp [strs]; omega) hB4.size
                have hrun' : (Builtin.append_ #[22, 22] 22 #[.slice A3 cs.length c3, .slice (some ⟨u3.heap.size, 0, none⟩) 1 1]).run Try.prog u4 = .ok (.slice A4 (cs.length + 1) c4) u5 := by simpa [strs] using hrun
                have own4 : Own u5 w3.heap.size 9 A4 c4 (strs (cs ++ [(zt n)])) := by simpa [strs] using own4
                have hB5 : Below w3.heap.size w3 u5 := own2.below hB4 hg (Nat.le_refl _) hB4.size
                refine step_append_d (d := 48) rfl rfl (.tmp 43) (.tmp 47) 22 22 rfl (vs := .slice A3 cs.length c3) (vx := .slice (some ⟨u3.heap.size, 0, none⟩) 1 1) (by simp [Act.eval]) (by simp [Act.eval]) hrun' ?_
                refine hK _ _ ?_
                clear hK KK hrun hrun' own2 hg hz
                simp only [Act.put, List.setIfInBounds_toArray, List.set_cons_zero, List.set_cons_succ]
                refine Reg.take_at (i := 8) (d := 5) (v := ?_) rfl rfl (by kernel_rfl) (by kernel_rfl) (by kernel_rfl) (fun _ _ _ h => h) (Or.inl ⟨by rfl, ?_⟩) ?_
                rotate_left 1
                · intro w; go_simp <;> with_reducible rfl
                simp only [Act.put, List.setIfInBounds_toArray, List.set_cons_zero, List.set_cons_succ]
                refine wpAny_done (by kernel_rfl) ?_ _
                go_wp2_with fail
                go_meet
                exact ⟨A4, c4, rfl, own4, hB5⟩
              refine AllReady.cons rfl (fun KK hK => ?_) AllReady.nil
              go_simp
              refine hK _ _ ?_
              clear hK KK
              obtain ⟨u3, hw⟩ : ∃ v, v = (u2.alloc (.cells #[.string (zt n)] 9)) := ⟨_, rfl⟩
              rw [← hw]
              have hst2 : Below u2.heap.size u2 u3 := by rw [hw]; exact (Below.refl _ _).alloc (Nat.le_refl _) _
              have hlt2 : u2.heap.size < u3.heap.size := by rw [hw]; simp
              have hz : At u3 u2.heap.size 9 #[.string (zt n)] := by rw [hw]; exact heap_alloc_new _ _
              have hB3 := Below.step hB2 hst2
              have own0 := own0.later hst2
              clear hw
              refine wpAny_ready (rs := [2]) (by decide +kernel) (by simp) ?_
              refine AllReady.cons rfl (fun KK hK => ?_) AllReady.nil
              have hnz : some u2.heap.size ≠ (Value.slice (some ⟨u1.heap.size, 0, none⟩) ([] : List Value).length 0).ownBlock := by simp [Value.ownBlock]; omega
              obtain ⟨A3, c3, u4, hrun, own2, hg⟩ := run_append_row (P := Try.prog) 22 el_strs (c2 := c) own0 (HRA.out _ (Below.step b5 hB3)) (strs_one' cs) (by simp [strs, maxLen]; omega) (by simp [strs]; omega) hB3.size
              have hrun' : (Builtin.append_ #[22, 22] 22 #[.slice (some ⟨u1.heap.size, 0, none⟩) 0 0, .slice A cs.length c]).run Try.prog u3 = .ok (.slice A3 cs.length c3) u4 := by simpa [strs] using hrun
              have own2 : Own u4 w3.heap.size 9 A3 c3 (strs cs) := own2
              have hB4 : Below w3.heap.size w3 u4 := own0.below hB3 hg (Nat.le_refl _) hB3.size
              have hlt3 : u3.heap.size ≤ u4.heap.size := hg.size
              have hz := At.grown hz hg hnz
              refine step_append_d (d := 43) rfl rfl (.tmp 41) (.tmp 42) 22 22 rfl (vs := .slice (some ⟨u1.heap.size, 0, none⟩) 0 0) (vx := .slice A cs.length c) (by simp [Act.eval]) (by simp [Act.eval]) hrun' ?_
              refine hK _ _ ?_
              clear hK KK hrun hrun' own0 hg
              simp only [Act.put, List.setIfInBounds_toArray, List.set_cons_zero, List.set_cons_succ]
              refine wpAny_ready (rs := [7]) (by decide +kernel) (by simp) ?_
              refine AllReady.cons rfl (fun KK hK => ?_) AllReady.nil
              obtain ⟨A4, c4, u5, hrun, own4, hg⟩ := run_append_row (P := Try.prog) 22 el_strs (c2 := 1) own2 (row_of_block hz) (by simp [Value.oneCell']) (by simp [strs, maxLen]; omega) (by simp [strs]; omega) hB4.size
              have hrun' : (Builtin.append_ #[22, 22] 22 #[.slice A3 cs.length c3, .slice (some ⟨u2.heap.size, 0, none⟩) 1 1]).run Try.prog u4 = .ok (.slice A4 (cs.length + 1) c4) u5 := by simpa [strs] using hrun
              have own4 : Own u5 w3.heap.size 9 A4 c4 (strs (cs ++ [(zt n)])) := by simpa [strs] using own4
              have hB5 : Below w3.heap.size w3 u5 := own2.below hB4 hg (Nat.le_refl _) hB4.size
              refine step_append_d (d := 48) rfl rfl (.tmp 43) (.tmp 47) 22 22 rfl (vs := .slice A3 cs.length c3) (vx := .slice (some ⟨u2.heap.size, 0, none⟩) 1 1) (by simp [Act.eval]) (by simp [Act.eval]) hrun' ?_
              refine hK _ _ ?_
              clear hK KK hrun hrun' own2 hg hz
              simp only [Act.put, List.setIfInBounds_toArray, List.set_cons_zero, List.set_cons_succ]
              refine Reg.take_at (i := 8) (d := 5) (v := ?_) rfl rfl (by kernel_rfl) (by kernel_rfl) (by kernel_rfl) (fun _ _ _ h => h) (Or.inl ⟨by rfl, ?_⟩) ?_
              rotate_left 1
              · intro w; go_simp <;> with_reducible rfl
              simp only [Act.put, List.setIfInBounds_toArray, List.set_cons_zero, List.set_cons_succ]
              refine wpAny_done (by kernel_rfl) ?_ _
              go_wp2_with fail
              go_meet
              exact ⟨A4, c4, rfl, own4, hB5⟩
            refine AllReady.cons rfl (fun KK hK => ?_) AllReady.nil
            have hcv := conv_zeros hy
            go_simp
            refine hK _ _ ?_
            clear hK KK hcv hy
            refine wpAny_ready (rs := [0, 6]) (by decide +kernel) (by simp) ?_
            refine AllReady.cons rfl (fun KK hK => ?_) ?_
            · go_simp
              refine hK _ _ ?_
              clear hK KK
              obtain ⟨u2, hw⟩ : ∃ v, v = (u1.alloc (.cells #[] 9)) := ⟨_, rfl⟩
              rw [← hw]
              have hst1 : Below u1.heap.size u1 u2 := by rw [hw]; exact (Below.refl _ _).alloc (Nat.le_refl _) _
              have hlt1 : u1.heap.size < u2.heap.size := by rw [hw]; simp
              have own0 : Own u2 w3.heap.size 9 (some ⟨u1.heap.size, 0, none⟩) 0 [] := by rw [hw]; exact Own.empty u1 _ hB1.size
              have hB2 := Below.step hB1 hst1
              clear hw
              refine wpAny_ready (rs := [2, 6]) (by decide +kernel) (by simp) ?_
              refine AllReady.cons rfl (fun KK hK => ?_) ?_
              · obtain ⟨A3, c3, u3, hrun, own2, hg⟩ := run_append_row (P := Try.prog) 22 el_strs (c2 := c) own0 (HRA.out _ (Below.step b5 hB2)) (strs_one' cs) (by simp [strs, maxLen]; omega) (by simp [strs]; omega) hB2.size
                have hrun' : (Builtin.append_ #[22, 22] 22 #[.slice (some ⟨u1.heap.size, 0, none⟩) 0 0, .slice A cs.length c]).run Try.prog u2 = .ok (.slice A3 cs.length c3) u3 := by simpa [strs] using hrun
                have own2 : Own u3 w3.heap.size 9 A3 c3 (strs cs) := own2
                have hB3 : Below w3.heap.size w3 u3 := own0.below hB2 hg (Nat.le_refl _) hB2.size
                have hlt2 : u2.heap.size ≤ u3.heap.size := hg.size
                refine step_append_d (d := 43) rfl rfl (.tmp 41) (.tmp 42) 22 22 rfl (vs := .slice (some ⟨u1.heap.size, 0, none⟩) 0 0) (vx := .slice A cs.length c) (by simp [Act.eval]) (by simp [Act.eval]) hrun' ?_
                refine hK _ _ ?_
                clear hK KK hrun hrun' own0 hg
                simp only [Act.put, List.setIfInBounds_toArray, List.set_cons_zero, List.set_cons_succ]
                refine wpAny_ready (rs := [6]) (by decide +kernel) (by simp) ?_
                refine AllReady.cons rfl (fun KK hK => ?_) AllReady.nil
                go_simp
                refine hK _ _ ?_
                clear hK KK
                obtain ⟨u4, hw⟩ : ∃ v, v = (u3.alloc (.cells #[.string (zt n)] 9)) := ⟨_, rfl⟩
                rw [← hw]
                have hst3 : Below u3.heap.size u3 u4 := by rw [hw]; exact (Below.refl _ _).alloc (Nat.le_refl _) _
                have hlt3 : u3.heap.size < u4.heap.size := by rw [hw]; simp
                have hz : At u4 u3.heap.size 9 #[.string (zt n)] := by rw [hw]; exact heap_alloc_new _ _
                have hB4 := Below.step hB3 hst3
                have own2 := own2.later hst3
                clear hw
                refine wpAny_ready (rs := [7]) (by decide +kernel) (by simp) ?_
                refine AllReady.cons rfl (fun KK hK => ?_) AllReady.nil
                obtain ⟨A4, c4, u5, hrun, own4, hg⟩ := run_append_row (P := Try.prog) 22 el_strs (c2 := 1) own2 (row_of_block hz) (by simp [Value.oneCell']) (by simp [strs, maxLen]; omega) (by simp [strs]; omega) hB4.size
                have hrun' : (Builtin.append_ #[22, 22] 22 #[.slice A3 cs.length c3, .slice (some ⟨u3.heap.size, 0, none⟩) 1 1]).run Try.prog u4 = .ok (.slice A4 (cs.length + 1) c4) u5 := by simpa [strs] using hrun
                have own4 : Own u5 w3.heap.size 9 A4 c4 (strs (cs ++ [(zt n)])) := by simpa [strs] using own4
                have hB5 : Below w3.heap.size w3 u5 := own2.below hB4 hg (Nat.le_refl _) hB4.size
                refine step_append_d (d := 48) rfl rfl (.tmp 43) (.tmp 47) 22 22 rfl (vs := .slice A3 cs.length c3) (vx := .slice (some ⟨u3.heap.size, 0, none⟩) 1 1) (by simp [Act.eval]) (by simp [Act.eval]) hrun' ?_
                refine hK _ _ ?_
                clear hK KK hrun hrun' own2 hg hz
                simp only [Act.put, List.setIfInBounds_toArray, List.set_cons_zero, List.set_cons_succ]
                refine Reg.take_at (i := 8) (d := 5) (v := ?_) rfl rfl (by kernel_rfl) (by kernel_rfl) (by kernel_rfl) (fun _ _ _ h => h) (Or.inl ⟨by rfl, ?_⟩) ?_
                rotate_left 1
                · intro w; go_simp <;> with_reducible rfl
                simp only [Act.put, List.setIfInBounds_toArray, List.set_cons_zero, List.set_cons_succ]
                refine wpAny_done (by kernel_rfl) ?_ _
                go_wp2_with fail
                go_meet
                exact ⟨A4, c4, rfl, own4, hB5⟩
              refine AllReady.cons rfl (fun KK hK => ?_) AllReady.nil
              go_simp
              refine hK _ _ ?_
              clear hK KK
              obtain ⟨u3, hw⟩ : ∃ v, v = (u2.alloc (.cells #[.string (zt n)] 9)) := ⟨_, rfl⟩
              rw [← hw]
              have hst2 : Below u2.heap.size u2 u3 := by rw [hw]; exact (Below.refl _ _).alloc (Nat.le_refl _) _
              have hlt2 : u2.heap.size < u3.heap.size := by rw [hw]; simp
              have hz : At u3 u2.heap.size 9 #[.string (zt n)] := by rw [hw]; exact heap_alloc_new _ _
              have hB3 := Below.step hB2 hst2
              have own0 := own0.later hst2
              clear hw
              refine wpAny_ready (rs := [2]) (by decide +kernel) (by simp) ?_
              refine AllReady.cons rfl (fun KK hK => ?_) AllReady.nil
              have hnz : some u2.heap.size ≠ (Value.slice (some ⟨u1.heap.size, 0, none⟩) ([] : List Value).length 0).ownBlock := by simp [Value.ownBlock]; omega
              obtain ⟨A3, c3, u4, hrun, own2, hg⟩ := run_append_row (P := Try.prog) 22 el_strs (c2 := c) own0 (HRA.out _ (Below.step b5 hB3)) (strs_one' cs) (by simp [strs, maxLen]; omega) (by simp [strs]; omega) hB3.size
              have hrun' : (Builtin.append_ #[22, 22] 22 #[.slice (some ⟨u1.heap.size, 0, none⟩) 0 0, .slice A cs.length c]).run Try.prog u3 = .ok (.slice A3 cs.length c3) u4 := by simpa [strs] using hrun
              have own2 : Own u4 w3.heap.size 9 A3 c3 (strs cs) := own2
              have hB4 : Below w3.heap.size w3 u4 := own0.below hB3 hg (Nat.le_refl _) hB3.size
              have hlt3 : u3.heap.size ≤ u4.heap.size := hg.size
              have hz := At.grown hz hg hnz
              refine step_append_d (d := 43) rfl rfl (.tmp 41) (.tmp 42) 22 22 rfl (vs := .slice (some ⟨u1.heap.size, 0, none⟩) 0 0) (vx := .slice A cs.length c) (by simp [Act.eval]) (by simp [Act.eval]) hrun' ?_
              refine hK _ _ ?_
              clear hK KK hrun hrun' own0 hg
              simp only [Act.put, List.setIfInBounds_toArray, List.set_cons_zero, List.set_cons_succ]
              refine wpAny_ready (rs := [7]) (by decide +kernel) (by simp) ?_
              refine AllReady.cons rfl (fun KK hK => ?_) AllReady.nil
              obtain ⟨A4, c4, u5, hrun, own4, hg⟩ := run_append_row (P := Try.prog) 22 el_strs (c2 := 1) own2 (row_of_block hz) (by simp [Value.oneCell']) (by simp [strs, maxLen]; omega) (by simp [strs]; omega) hB4.size
              have hrun' : (Builtin.append_ #[22, 22] 22 #[.slice A3 cs.length c3, .slice (some ⟨u2.heap.size, 0, none⟩) 1 1]).run Try.prog u4 = .ok (.slice A4 (cs.length + 1) c4) u5 := by simpa [strs] using hrun
              have own4 : Own u5 w3.heap.size 9 A4 c4 (strs (cs ++ [(zt n)])) := by simpa [strs] using own4
              have hB5 : Below w3.heap.size w3 u5 := own2.below hB4 hg (Nat.le_refl _) hB4.size
              refine step_append_d (d := 48) rfl rfl (.tmp 43) (.tmp 47) 22 22 rfl (vs := .slice A3 cs.length c3) (vx := .slice (some ⟨u2.heap.size, 0, none⟩) 1 1) (by simp [Act.eval]) (by simp [Act.eval]) hrun' ?_
              refine hK _ _ ?_
              clear hK KK hrun hrun' own2 hg hz
              simp only [Act.put, List.setIfInBounds_toArray, List.set_cons_zero, List.set_cons_succ]
              refine Reg.take_at (i := 8) (d := 5) (v := ?_) rfl rfl (by kernel_rfl) (by kernel_rfl) (by kernel_rfl) (fun _ _ _ h => h) (Or.inl ⟨by rfl, ?_⟩) ?_
              rotate_left 1
              · intro w; go_simp <;> with_reducible rfl
              simp only [Act.put, List.setIfInBounds_toArray, List.set_cons_zero, List.set_cons_succ]
              refine wpAny_done (by kernel_rfl) ?_ _
              go_wp2_with fail
              go_meet
              exact ⟨A4, c4, rfl, own4, hB5⟩
            refine AllReady.cons rfl (fun KK hK => ?_) AllReady.nil
            go_simp
            refine hK _ _ ?_
            clear hK KK
            obtain ⟨u2, hw⟩ : ∃ v, v = (u1.alloc (.cells #[.string (zt n)] 9)) := ⟨_, rfl⟩
            rw [← hw]
            have hst1 : Below u1.heap.size u1 u2 := by rw [hw]; exact (Below.refl _ _).alloc (Nat.le_refl _) _
            have hlt1 : u1.heap.size < u2.heap.size := by rw [hw]; simp
            have hz : At u2 u1.heap.size 9 #[.string (zt n)] := by rw [hw]; exact heap_alloc_new _ _
            have hB2 := Below.step hB1 hst1
            clear hw
            refine wpAny_ready (rs := [0]) (by decide +kernel) (by simp) ?_
            refine AllReady.cons rfl (fun KK hK => ?_) AllReady.nil
            go_simp
            refine hK _ _ ?_
            clear hK KK
            obtain ⟨u3, hw⟩ : ∃ v, v = (u2.alloc (.cells #[] 9)) := ⟨_, rfl⟩
            rw [← hw]
            have hst2 : Below u2.heap.size u2 u3 := by rw [hw]; exact (Below.refl _ _).alloc (Nat.le_refl _) _
            have hlt2 : u2.heap.size < u3.heap.size := by rw [hw]; simp
            have own0 : Own u3 w3.heap.size 9 (some ⟨u2.heap.size, 0, none⟩) 0 [] := by rw [hw]; exact Own.empty u2 _ hB2.size
            have hB3 := Below.step hB2 hst2
            have hz := at_below hz hst2
            clear hw
            refine wpAny_ready (rs := [2]) (by decide +kernel) (by simp) ?_
            refine AllReady.cons rfl (fun KK hK => ?_) AllReady.nil
            have hnz : some u1.heap.size ≠ (Value.slice (some ⟨u2.heap.size, 0, none⟩) ([] : List Value).length 0).ownBlock := by simp [Value.ownBlock]; omega
            obtain ⟨A3, c3, u4, hrun, own2, hg⟩ := run_append_row (P := Try.prog) 22 el_strs (c2 := c) own0 (HRA.out _ (Below.step b5 hB3)) (strs_one' cs) (by simp [strs, maxLen]; omega) (by simp [strs]; omega) hB3.size
            have hrun' : (Builtin.append_ #[22, 22] 22 #[.slice (some ⟨u2.heap.size, 0, none⟩) 0 0, .slice A cs.length c]).run Try.prog u3 = .ok (.slice A3 cs.length c3) u4 := by simpa [strs] using hrun
            have own2 : Own u4 w3.heap.size 9 A3 c3 (strs cs) := own2
            have hB4 : Below w3.heap.size w3 u4 := own0.below hB3 hg (Nat.le_refl _) hB3.size
            have hlt3 : u3.heap.size ≤ u4.heap.size := hg.size
            have hz := At.grown hz hg hnz
            refine step_append_d (d := 43) rfl rfl (.tmp 41) (.tmp 42) 22 22 rfl (vs := .slice (some ⟨u2.heap.size, 0, none⟩) 0 0) (vx := .slice A cs.length c) (by simp [Act.eval]) (by simp [Act.eval]) hrun' ?_
            refine hK _ _ ?_
            clear hK KK hrun hrun' own0 hg
            simp only [Act.put, List.setIfInBounds_toArray, List.set_cons_zero, List.set_cons_succ]
            refine wpAny_ready (rs := [7]) (by decide +kernel) (by simp) ?_
            refine AllReady.cons rfl (fun KK hK => ?_) AllReady.nil
            obtain ⟨A4, c4, u5, hrun, own4, hg⟩ := run_append_row (P := Try.prog) 22 el_strs (c2 := 1) own2 (row_of_block hz) (by simp [Value.oneCell']) (by simp [strs, maxLen]; omega) (by simp [strs]; omega) hB4.size
            have hrun' : (Builtin.append_ #[22, 22] 22 #[.slice A3 cs.length c3, .slice (some ⟨u1.heap.size, 0, none⟩) 1 1]).run Try.prog u4 = .ok (.slice A4 (cs.length + 1) c4) u5 := by simpa [strs] using hrun
            have own4 : Own u5 w3.heap.size 9 A4 c4 (strs (cs ++ [(zt n)])) := by simpa [strs] using own4
            have hB5 : Below w3.heap.size w3 u5 := own2.below hB4 hg (Nat.le_refl _) hB4.size
            refine step_append_d (d := 48) rfl rfl (.tmp 43) (.tmp 47) 22 22 rfl (vs := .slice A3 cs.length c3) (vx := .slice (some ⟨u1.heap.size, 0, none⟩) 1 1) (by simp [Act.eval]) (by simp [Act.eval]) hrun' ?_
            refine hK _ _ ?_
            clear hK KK hrun hrun' own2 hg hz
            simp only [Act.put, List.setIfInBounds_toArray, List.set_cons_zero, List.set_cons_succ]
            refine Reg.take_at (i := 8) (d := 5) (v := ?_) rfl rfl (by kernel_rfl) (by kernel_rfl) (by kernel_rfl) (fun _ _ _ h => h) (Or.inl ⟨by rfl, ?_⟩) ?_
            rotate_left 1
            · intro w; go_simp <;> with_reducible rfl
            simp only [Act.put, List.setIfInBounds_toArray, List.set_cons_zero, List.set_cons_succ]
            refine wpAny_done (by kernel_rfl) ?_ _
            go_wp2_with fail
            go_meet
            exact ⟨A4, c4, rfl, own4, hB5⟩
          case rest =>
            obtain ⟨A5, c5, rfl, OW5, hbc⟩ := hcut
            generalize wc = wa at *
            have hb7 := Below.step b5 hbc
            have s7 := s3.below hbc
            clear hmk1 s3 b5
            have hmk2 := HAS.out.2
            have hwr : IntKind.i64.wrap ((n : Int) + 1) = (n : Int) + 1 := IntWalk.i64_in _ (by omega)
            go_upto_region 8 with fail
            go_cut [6] from 49 to 57 (fun s6 wx => ∃ (A4 : Option Addr) (c4 : Nat), s6 = .slice A4 (cs.length + 1) c4 ∧ Own wx wa.heap.size 9 A4 c4 (strs (cs ++ [zt (n + 1)])) ∧ Below wa.heap.size wa wx)
            case first =>
              refine wp_region_any (by kernel_rfl) ?_
              change wpAny _ _ _ _ _ _ _ (World.drew _)
              obtain ⟨u0, hu0⟩ : ∃ v, v = World.drew wa := ⟨_, rfl⟩
              rw [← hu0]
              have hB0 : Below wa.heap.size wa u0 := by rw [hu0]; exact (Below.refl _ _).drew
              clear hu0
              refine Reg.take_at (i := 1) (d := 50) (v := ?_) rfl rfl (by kernel_rfl) (by kernel_rfl) (by kernel_rfl) (fun _ _ _ h => h) (Or.inl ⟨by rfl, ?_⟩) ?_
              rotate_left 1
              · intro w; go_simp <;> with_reducible rfl
              simp only [Act.put, List.setIfInBounds_toArray, List.set_cons_zero, List.set_cons_succ]
              refine Reg.take_at (i := 3) (d := 52) (v := ?_) rfl rfl (by kernel_rfl) (by kernel_rfl) (by kernel_rfl) (fun _ _ _ h => h) (Or.inl ⟨by rfl, ?_⟩) ?_
              rotate_left 1
              · intro w; go_simp <;> with_reducible rfl
              simp only [Act.put, List.setIfInBounds_toArray, List.set_cons_zero, List.set_cons_succ]
              refine Reg.take_at (i := 4) (d := 53) (v := ?_) rfl rfl (by kernel_rfl) (by kernel_rfl) (by kernel_rfl) (fun _ _ _ h => h) (Or.inl ⟨by rfl, ?_⟩) ?_
              rotate_left 1
              · intro w; go_simp <;> with_reducible rfl
              simp only [Act.put, List.setIfInBounds_toArray, List.set_cons_zero, List.set_cons_succ]
              refine wpAny_ready (rs := [0, 5]) (by decide +kernel) (by simp) ?_
              refine AllReady.cons rfl (fun KK hK => ?_) ?_
              · go_simp
                refine hK _ _ ?_
                clear hK KK
                obtain ⟨u1, hw⟩ : ∃ v, v = (u0.alloc (.cells #[] 9)) := ⟨_, rfl⟩
                rw [← hw]
                have hst0 : Below u0.heap.size u0 u1 := by rw [hw]; exact (Below.refl _ _).alloc (Nat.le_refl _) _
                have hlt0 : u0.heap.size < u1.heap.size := by rw [hw]; simp
                have own0 : Own u1 wa.heap.size 9 (some ⟨u0.heap.size, 0, none⟩) 0 [] := by rw [hw]; exact Own.empty u0 _ hB0.size
                have hB1 := Below.step hB0 hst0
                clear hw
                refine wpAny_ready (rs := [2, 5]) (by decide +kernel) (by simp) ?_
                refine AllReady.cons rfl (fun KK hK => ?_) ?_
                · obtain ⟨A3, c3, u2, hrun, own2, hg⟩ := run_append_row (P := Try.prog) 22 el_strs (c2 := c) own0 (HRA.out _ (Below.step hb7 hB1)) (strs_one' cs) (by simp [strs, maxLen]; omega) (by simp [strs]; omega) hB1.size
                  have hrun' : (Builtin.append_ #[22, 22] 22 #[.slice (some ⟨u0.heap.size, 0, none⟩) 0 0, .slice A cs.length c]).run Try.prog u1 = .ok (.slice A3 cs.length c3) u2 := by simpa [strs] using hrun
                  have own2 : Own u2 wa.heap.size 9 A3 c3 (strs cs) := own2
                  have hB2 : Below wa.heap.size wa u2 := own0.below hB1 hg (Nat.le_refl _) hB1.size
                  have hlt1 : u1.heap.size ≤ u2.heap.size := hg.size
                  refine step_append_d (d := 51) rfl rfl (.tmp 49) (.tmp 50) 22 22 rfl (vs := .slice (some ⟨u0.heap.size, 0, none⟩) 0 0) (vx := .slice A cs.length c) (by simp [Act.eval]) (by simp [Act.eval]) hrun' ?_
                  refine hK _ _ ?_
                  clear hK KK hrun hrun' own0 hg
                  simp only [Act.put, List.setIfInBounds_toArray, List.set_cons_zero, List.set_cons_succ]
                  refine wpAny_ready (rs := [5]) (by decide +kernel) (by simp) ?_
                  refine AllReady.cons rfl (fun KK hK => ?_) AllReady.nil
                  go_simp
                  refine hK _ _ ?_
                  clear hK KK
                  obtain ⟨u3, hw⟩ : ∃ v, v = mk u2 (n + 1) := ⟨_, rfl⟩
                  rw [← hw]
                  have hst2 : Below u2.heap.size u2 u3 := by rw [hw]; exact mk_below _ _
                  have hlt2 : u2.heap.size < u3.heap.size := by rw [hw, mk_size]; omega
                  have hy : At u3 u2.heap.size 5 (bv (List.replicate ((n + 1)) 0)).toArray := by rw [hw]; exact mk_at _ _
                  have hB3 := Below.step hB2 hst2
                  have own2 := own2.later hst2
                  clear hw
                  refine wpAny_ready (rs := [6]) (by decide +kernel) (by simp) ?_
                  refine AllReady.cons rfl (fun KK hK => ?_) AllReady.nil
                  have hcv := conv_zeros hy
                  go_simp
                  refine hK _ _ ?_
                  clear hK KK hcv hy
                  refine wpAny_ready (rs := [7]) (by decide +kernel) (by simp) ?_
                  refine AllReady.cons rfl (fun KK hK => ?_) AllReady.nil
                  go_simp
                  refine hK _ _ ?_
                  clear hK KK
                  obtain ⟨u4, hw⟩ : ∃ v, v = (u3.alloc (.cells #[.string (zt (n + 1))] 9)) := ⟨_, rfl⟩
                  rw [← hw]
                  have hst3 : Below u3.heap.size u3 u4 := by rw [hw]; exact (Below.refl _ _).alloc (Nat.le_refl _) _
                  have hlt3 : u3.heap.size < u4.heap.size := by rw [hw]; simp
                  have hz : At u4 u3.heap.size 9 #[.string (zt (n + 1))] := by rw [hw]; exact heap_alloc_new _ _
                  have hB4 := Below.step hB3 hst3
                  have own2 := own2.later hst3
                  clear hw
                  refine wpAny_ready (rs := [8]) (by decide +kernel) (by simp) ?_
                  refine AllReady.cons rfl (fun KK hK => ?_) AllReady.nil
                  obtain ⟨A4, c4, u5, hrun, own4, hg⟩ := run_append_row (P := Try.prog) 22 el_strs (c2 := 1) own2 (row_of_block hz) (by simp [Value.oneCell']) (by simp [strs, maxLen]; omega) (by simp [strs]; omega) hB4.size
                  have hrun' : (Builtin.append_ #[22, 22] 22 #[.slice A3 cs.length c3, .slice (some ⟨u3.heap.size, 0, none⟩) 1 1]).run Try.prog u4 = .ok (.slice A4 (cs.length + 1) c4) u5 := by simpa [strs] using hrun
                  have own4 : Own u5 wa.heap.size 9 A4 c4 (strs (cs ++ [(zt (n + 1))])) := by simpa [strs] using own4
                  have hB5 : Below wa.heap.size wa u5 := own2.below hB4 hg (Nat.le_refl _) hB4.size
                  refine step_append_d (d := 57) rfl rfl (.tmp 51) (.tmp 56) 22 22 rfl (vs := .slice A3 cs.length c3) (vx := .slice (some ⟨u3.heap.size, 0, none⟩) 1 1) (by simp [Act.eval]) (by simp [Act.eval]) hrun' ?_
                  refine hK _ _ ?_
                  clear hK KK hrun hrun' own2 hg hz
                  simp only [Act.put, List.setIfInBounds_toArray, List.set_cons_zero, List.set_cons_succ]
                  refine Reg.take_at (i := 9) (d := 6) (v := ?_) rfl rfl (by kernel_rfl) (by kernel_rfl) (by kernel_rfl) (fun _ _ _ h => h) (Or.inl ⟨by rfl, ?_⟩) ?_
                  rotate_left 1
                  · intro w; go_simp <;> with_reducible rfl
                  simp only [Act.put, List.setIfInBounds_toArray, List.set_cons_zero, List.set_cons_succ]
                  refine wpAny_done (by kernel_rfl) ?_ _
                  go_wp2_with fail
                  go_meet
                  exact ⟨A4, c4, rfl, own4, hB5⟩
                refine AllReady.cons rfl (fun KK hK => ?_) AllReady.nil
                go_simp
                refine hK _ _ ?_
                clear hK KK
                obtain ⟨u2, hw⟩ : ∃ v, v = mk u1 (n + 1) := ⟨_, rfl⟩
                rw [← hw]
                have hst1 : Below u1.heap.size u1 u2 := by rw [hw]; exact mk_below _ _
                have hlt1 : u1.heap.size < u2.heap.size := by rw [hw, mk_size]; omega
                have hy : At u2 u1.heap.size 5 (bv (List.replicate ((n + 1)) 0)).toArray := by rw [hw]; exact mk_at _ _
                have hB2 := Below.step hB1 hst1
                have own0 := own0.later hst1
                clear hw
                refine wpAny_ready (rs := [2, 6]) (by decide +kernel) (by simp) ?_
                refine AllReady.cons rfl (fun KK hK => ?_) ?_
                · have hny : some u1.heap.size ≠ (Value.slice (some ⟨u0.heap.size, 0, none⟩) ([] : List Value).length 0).ownBlock := by simp [Value.ownBlock]; omega
                  obtain ⟨A3, c3, u3, hrun, own2, hg⟩ := run_append_row (P := Try.prog) 22 el_strs (c2 := c) own0 (HRA.out _ (Below.step hb7 hB2)) (strs_one' cs) (by simp [strs, maxLen]; omega) (by simp [strs]; omega) hB2.size
                  have hrun' : (Builtin.append_ #[22, 22] 22 #[.slice (some ⟨u0.heap.size, 0, none⟩) 0 0, .slice A cs.length c]).run Try.prog u2 = .ok (.slice A3 cs.length c3) u3 := by simpa [strs] using hrun
                  have own2 : Own u3 wa.heap.size 9 A3 c3 (strs cs) := own2
                  have hB3 : Below wa.heap.size wa u3 := own0.below hB2 hg (Nat.le_refl _) hB2.size
                  have hlt2 : u2.heap.size ≤ u3.heap.size := hg.size
                  have hy := At.grown hy hg hny
                  refine step_append_d (d := 51) rfl rfl (.tmp 49) (.tmp 50) 22 22 rfl (vs := .slice (some ⟨u0.heap.size, 0, none⟩) 0 0) (vx := .slice A cs.length c) (by simp [Act.eval]) (by simp [Act.eval]) hrun' ?_
                  refine hK _ _ ?_
                  clear hK KK hrun hrun' own0 hg
                  simp only [Act.put, List.setIfInBounds_toArray, List.set_cons_zero, List.set_cons_succ]
                  refine wpAny_ready (rs := [6]) (by decide +kernel) (by simp) ?_
                  refine AllReady.cons rfl (fun KK hK => ?_) AllReady.nil
                  have hcv := conv_zeros hy
                  go_simp
                  refine hK _ _ ?_
                  clear hK KK hcv hy
                  refine wpAny_ready (rs := [7]) (by decide +kernel) (by simp) ?_
                  refine AllReady.cons rfl (fun KK hK => ?_) AllReady.nil
                  go_simp
                  refine hK _ _ ?_
                  clear hK KK
                  obtain ⟨u4, hw⟩ : ∃ v, v = (u3.alloc (.cells #[.string (zt (n + 1))] 9)) := ⟨_, rfl⟩
                  rw [← hw]
                  have hst3 : Below u3.heap.size u3 u4 := by rw [hw]; exact (Below.refl _ _).alloc (Nat.le_refl _) _
                  have hlt3 : u3.heap.size < u4.heap.size := by rw [hw]; simp
                  have hz : At u4 u3.heap.size 9 #[.string (zt (n + 1))] := by rw [hw]; exact heap_alloc_new _ _
                  have hB4 := Below.step hB3 hst3
                  have own2 := own2.later hst3
                  clear hw
                  refine wpAny_ready (rs := [8]) (by decide +kernel) (by simp) ?_
                  refine AllReady.cons rfl (fun KK hK => ?_) AllReady.nil
                  obtain ⟨A4, c4, u5, hrun, own4, hg⟩ := run_append_row (P := Try.prog) 22 el_strs (c2 := 1) own2 (row_of_block hz) (by simp [Value.oneCell']) (by simp [strs, maxLen]; omega) (by simp [strs]; omega) hB4.size
                  have hrun' : (Builtin.append_ #[22, 22] 22 #[.slice A3 cs.length c3, .slice (some ⟨u3.heap.size, 0, none⟩) 1 1]).run Try.prog u4 = .ok (.slice A4 (cs.length + 1) c4) u5 := by simpa [strs] using hrun
                  have own4 : Own u5 wa.heap.size 9 A4 c4 (strs (cs ++ [(zt (n + 1))])) := by simpa [strs] using own4
                  have hB5 : Below wa.heap.size wa u5 := own2.below hB4 hg (Nat.le_refl _) hB4.size
                  refine step_append_d (d := 57) rfl rfl (.tmp 51) (.tmp 56) 22 22 rfl (vs := .slice A3 cs.length c3) (vx := .slice (some ⟨u3.heap.size, 0, none⟩) 1 1) (by simp [Act.eval]) (by simp [Act.eval]) hrun' ?_
                  refine hK _ _ ?_
                  clear hK KK hrun hrun' own2 hg hz
                  simp only [Act.put, List.setIfInBounds_toArray, List.set_cons_zero, List.set_cons_succ]
                  refine Reg.take_at (i := 9) (d := 6) (v := ?_) rfl rfl (by kernel_rfl) (by kernel_rfl) (by kernel_rfl) (fun _ _ _ h => h) (Or.inl ⟨by rfl, ?_⟩) ?_
                  rotate_left 1
                  · intro w; go_simp <;> with_reducible rfl
                  simp only [Act.put, List.setIfInBounds_toArray, List.set_cons_zero, List.set_cons_succ]
                  refine wpAny_done (by kernel_rfl) ?_ _
                  go_wp2_with fail
                  go_meet
                  exact ⟨A4, c4, rfl, own4, hB5⟩
                refine AllReady.cons rfl (fun KK hK => ?_) AllReady.nil
                have hcv := conv_zeros hy
                go_simp
                refine hK _ _ ?_
                clear hK KK hcv hy
                refine wpAny_ready (rs := [2, 7]) (by decide +kernel) (by simp) ?_
                refine AllReady.cons rfl (fun KK hK => ?_) ?_
                · obtain ⟨A3, c3, u3, hrun, own2, hg⟩ := run_append_row (P := Try.prog) 22 el_strs (c2 := c) own0 (HRA.out _ (Below.step hb7 hB2)) (strs_one' cs) (by simp [strs, maxLen]; omega) (by simp [strs]; omega) hB2.size
                  have hrun' : (Builtin.append_ #[22, 22] 22 #[.slice (some ⟨u0.heap.size, 0, none⟩) 0 0, .slice A cs.length c]).run Try.prog u2 = .ok (.slice A3 cs.length c3) u3 := by simpa [strs] using hrun
                  have own2 : Own u3 wa.heap.size 9 A3 c3 (strs cs) := own2
                  have hB3 : Below wa.heap.size wa u3 := own0.below hB2 hg (Nat.le_refl _) hB2.size
                  have hlt2 : u2.heap.size ≤ u3.heap.size := hg.size
                  refine step_append_d (d := 51) rfl rfl (.tmp 49) (.tmp 50) 22 22 rfl (vs := .slice (some ⟨u0.heap.size, 0, none⟩) 0 0) (vx := .slice A cs.length c) (by simp [Act.eval]) (by simp [Act.eval]) hrun' ?_
                  refine hK _ _ ?_
                  clear hK KK hrun hrun' own0 hg
                  simp only [Act.put, List.setIfInBounds_toArray, List.set_cons_zero, List.set_cons_succ]
                  refine wpAny_ready (rs := [7]) (by decide +kernel) (by simp) ?_
                  refine AllReady.cons rfl (fun KK hK => ?_) AllReady.nil
                  go_simp
                  refine hK _ _ ?_
                  clear hK KK
                  obtain ⟨u4, hw⟩ : ∃ v, v = (u3.alloc (.cells #[.string (zt (n + 1))] 9)) := ⟨_, rfl⟩
                  rw [← hw]
                  have hst3 : Below u3.heap.size u3 u4 := by rw [hw]; exact (Below.refl _ _).alloc (Nat.le_refl _) _
                  have hlt3 : u3.heap.size < u4.heap.size := by rw [hw]; simp
                  have hz : At u4 u3.heap.size 9 #[.string (zt (n + 1))] := by rw [hw]; exact heap_alloc_new _ _
                  have hB4 := Below.step hB3 hst3
                  have own2 := own2.later hst3
                  clear hw
                  refine wpAny_ready (rs := [8]) (by decide +kernel) (by simp) ?_
                  refine AllReady.cons rfl (fun KK hK => ?_) AllReady.nil
                  obtain ⟨A4, c4, u5, hrun, own4, hg⟩ := run_append_row (P := Try.prog) 22 el_strs (c2 := 1) own2 (row_of_block hz) (by simp [Value.oneCell']) (by simp [strs, maxLen]; omega) (by simp [strs]; omega) hB4.size
                  have hrun' : (Builtin.append_ #[22, 22] 22 #[.slice A3 cs.length c3, .slice (some ⟨u3.heap.size, 0, none⟩) 1 1]).run Try.prog u4 = .ok (.slice A4 (cs.length + 1) c4) u5 := by simpa [strs] using hrun
                  have own4 : Own u5 wa.heap.size 9 A4 c4 (strs (cs ++ [(zt (n + 1))])) := by simpa [strs] using own4
                  have hB5 : Below wa.heap.size wa u5 := own2.below hB4 hg (Nat.le_refl _) hB4.size
                  refine step_append_d (d := 57) rfl rfl (.tmp 51) (.tmp 56) 22 22 rfl (vs := .slice A3 cs.length c3) (vx := .slice (some ⟨u3.heap.size, 0, none⟩) 1 1) (by simp [Act.eval]) (by simp [Act.eval]) hrun' ?_
                  refine hK _ _ ?_
                  clear hK KK hrun hrun' own2 hg hz
                  simp only [Act.put, List.setIfInBounds_toArray, List.set_cons_zero, List.set_cons_succ]
                  refine Reg.take_at (i := 9) (d := 6) (v := ?_) rfl rfl (by kernel_rfl) (by kernel_rfl) (by kernel_rfl) (fun _ _ _ h => h) (Or.inl ⟨by rfl, ?_⟩) ?_
                  rotate_left 1
                  · intro w; go_simp <;> with_reducible rfl
                  simp only [Act.put, List.setIfInBounds_toArray, List.set_cons_zero, List.set_cons_succ]
                  refine wpAny_done (by kernel_rfl) ?_ _
                  go_wp2_with fail
                  go_meet
                  exact ⟨A4, c4, rfl, own4, hB5⟩
                refine AllReady.cons rfl (fun KK hK => ?_) AllReady.nil
                go_simp
                refine hK _ _ ?_
                clear hK KK
                obtain ⟨u3, hw⟩ : ∃ v, v = (u2.alloc (.cells #[.string (zt (n + 1))] 9)) := ⟨_, rfl⟩
                rw [← hw]
                have hst2 : Below u2.heap.size u2 u3 := by rw [hw]; exact (Below.refl _ _).alloc (Nat.le_refl _) _
                have hlt2 : u2.heap.size < u3.heap.size := by rw [hw]; simp
                have hz : At u3 u2.heap.size 9 #[.string (zt (n + 1))] := by rw [hw]; exact heap_alloc_new _ _
                have hB3 := Below.step hB2 hst2
                have own0 := own0.later hst2
                clear hw
                refine wpAny_ready (rs := [2]) (by decide +kernel) (by simp) ?_
                refine AllReady.cons rfl (fun KK hK => ?_) AllReady.nil
                have hnz : some u2.heap.size ≠ (Value.slice (some ⟨u0.heap.size, 0, none⟩) ([] : List Value).length 0).ownBlock := by simp [Value.ownBlock]; omega
                obtain ⟨A3, c3, u4, hrun, own2, hg⟩ := run_append_row (P := Try.prog) 22 el_strs (c2 := c) own0 (HRA.out _ (Below.step hb7 hB3)) (strs_one' cs) (by simp [strs, maxLen]; omega) (by simp [strs]; omega) hB3.size
                have hrun' : (Builtin.append_ #[22, 22] 22 #[.slice (some ⟨u0.heap.size, 0, none⟩) 0 0, .slice A cs.length c]).run Try.prog u3 = .ok (.slice A3 cs.length c3) u4 := by simpa [strs] using hrun
                have own2 : Own u4 wa.heap.size 9 A3 c3 (strs cs) := own2
                have hB4 : Below wa.heap.size wa u4 := own0.below hB3 hg (Nat.le_refl _) hB3.size
                have hlt3 : u3.heap.size ≤ u4.heap.size := hg.size
                have hz := At.grown hz hg hnz
                refine step_append_d (d := 51) rfl rfl (.tmp 49) (.tmp 50) 22 22 rfl (vs := .slice (some ⟨u0.heap.size, 0, none⟩) 0 0) (vx := .slice A cs.length c) (by simp [Act.eval]) (by simp [Act.eval]) hrun' ?_
                refine hK _ _ ?_
                clear hK KK hrun hrun' own0 hg
                simp only [Act.put, List.setIfInBounds_toArray, List.set_cons_zero, List.set_cons_succ]
                refine wpAny_ready (rs := [8]) (by decide +kernel) (by simp) ?_
                refine AllReady.cons rfl (fun KK hK => ?_) AllReady.nil
                obtain ⟨A4, c4, u5, hrun, own4, hg⟩ := run_append_row (P := Try.prog) 22 el_strs (c2 := 1) own2 (row_of_block hz) (by simp [Value.oneCell']) (by simp [strs, maxLen]; omega) (by simp [strs]; omega) hB4.size
                have hrun' : (Builtin.append_ #[22, 22] 22 #[.slice A3 cs.length c3, .slice (some ⟨u2.heap.size, 0, none⟩) 1 1]).run Try.prog u4 = .ok (.slice A4 (cs.length + 1) c4) u5 := by simpa [strs] using hrun
                have own4 : Own u5 wa.heap.size 9 A4 c4 (strs (cs ++ [(zt (n + 1))])) := by simpa [strs] using own4
                have hB5 : Below wa.heap.size wa u5 := own2.below hB4 hg (Nat.le_refl _) hB4.size
                refine step_append_d (d := 57) rfl rfl (.tmp 51) (.tmp 56) 22 22 rfl (vs := .slice A3 cs.length c3) (vx := .slice (some ⟨u2.heap.size, 0, none⟩) 1 1) (by simp [Act.eval]) (by simp [Act.eval]) hrun' ?_
                refine hK _ _ ?_
                clear hK KK hrun hrun' own2 hg hz
                simp only [Act.put, List.setIfInBounds_toArray, List.set_cons_zero, List.set_cons_succ]
                refine Reg.take_at (i := 9) (d := 6) (v := ?_) rfl rfl (by kernel_rfl) (by kernel_rfl) (by kernel_rfl) (fun _ _ _ h => h) (Or.inl ⟨by rfl, ?_⟩) ?_
                rotate_left 1
                · intro w; go_simp <;> with_reducible rfl
                simp only [Act.put, List.setIfInBounds_toArray, List.set_cons_zero, List.set_cons_succ]
                refine wpAny_done (by kernel_rfl) ?_ _
                go_wp2_with fail
                go_meet
                exact ⟨A4, c4, rfl, own4, hB5⟩
              refine AllReady.cons rfl (fun KK hK => ?_) AllReady.nil
              go_simp
              refine hK _ _ ?_
              clear hK KK
              obtain ⟨u1, hw⟩ : ∃ v, v = mk u0 (n + 1) := ⟨_, rfl⟩
              rw [← hw]
              have hst0 : Below u0.heap.size u0 u1 := by rw [hw]; exact mk_below _ _
              have hlt0 : u0.heap.size < u1.heap.size := by rw [hw, mk_size]; omega
              have hy : At u1 u0.heap.size 5 (bv (List.replicate ((n + 1)) 0)).toArray := by rw [hw]; exact mk_at _ _
              have hB1 := Below.step hB0 hst0
              clear hw
              refine wpAny_ready (rs := [0, 6]) (by decide +kernel) (by simp) ?_
              refine AllReady.cons rfl (fun KK hK => ?_) ?_
              · go_simp
                refine hK _ _ ?_
                clear hK KK
                obtain ⟨u2, hw⟩ : ∃ v, v = (u1.alloc (.cells #[] 9)) := ⟨_, rfl⟩
                rw [← hw]
                have hst1 : Below u1.heap.size u1 u2 := by rw [hw]; exact (Below.refl _ _).alloc (Nat.le_refl _) _
                have hlt1 : u1.heap.size < u2.heap.size := by rw [hw]; simp
                have own0 : Own u2 wa.heap.size 9 (some ⟨u1.heap.size, 0, none⟩) 0 [] := by rw [hw]; exact Own.empty u1 _ hB1.size
                have hB2 := Below.step hB1 hst1
                have hy := at_below hy hst1
                clear hw
                refine wpAny_ready (rs := [2, 6]) (by decide +kernel) (by simp) ?_
                refine AllReady.cons rfl (fun KK hK => ?_) ?_
                · have hny : some u0.heap.size ≠ (Value.slice (some ⟨u1.heap.size, 0, none⟩) ([] : List Value).length 0).ownBlock := by simp [Value.ownBlock]; omega
                  obtain ⟨A3, c3, u3, hrun, own2, hg⟩ := run_append_row (P := Try.prog) 22 el_strs (c2 := c) own0 (HRA.out _ (Below.step hb7 hB2)) (strs_one' cs) (by simp [strs, maxLen]; omega) (by simp [strs]; omega) hB2.size
                  have hrun' : (Builtin.append_ #[22, 22] 22 #[.slice (some ⟨u1.heap.size, 0, none⟩) 0 0, .slice A cs.length c]).run Try.prog u2 = .ok (.slice A3 cs.length c3) u3 := by simpa [strs] using hrun
                  have own2 : Own u3 wa.heap.size 9 A3 c3 (strs cs) := own2
                  have hB3 : Below wa.heap.size wa u3 := own0.below hB2 hg (Nat.le_refl _) hB2.size
                  have hlt2 : u2.heap.size ≤ u3.heap.size := hg.size
                  have hy := At.grown hy hg hny
                  refine step_append_d (d := 51) rfl rfl (.tmp 49) (.tmp 50) 22 22 rfl (vs := .slice (some ⟨u1.heap.size, 0, none⟩) 0 0) (vx := .slice A cs.length c) (by simp [Act.eval]) (by simp [Act.eval]) hrun' ?_
                  refine hK _ _ ?_
                  clear hK KK hrun hrun' own0 hg
                  simp only [Act.put, List.setIfInBounds_toArray, List.set_cons_zero, List.set_cons_succ]
                  refine wpAny_ready (rs := [6]) (by decide +kernel) (by simp) ?_
                  refine AllReady.cons rfl (fun KK hK => ?_) AllReady.nil
                  have hcv := conv_zeros hy
                  go_simp
                  refine hK _ _ ?_
                  clear hK KK hcv hy
                  refine wpAny_ready (rs := [7]) (by decide +kernel) (by simp) ?_
                  refine AllReady.cons rfl (fun KK hK => ?_) AllReady.nil
                  go_simp
                  refine hK _ _ ?_
                  clear hK KK
                  obtain ⟨u4, hw⟩ : ∃ v, v = (u3.alloc (.cells #[.string (zt (n + 1))] 9)) := ⟨_, rfl⟩
                  rw [← hw]
                  have hst3 : Below u3.heap.size u3 u4 := by rw [hw]; exact (Below.refl _ _).alloc (Nat.le_refl _) _
                  have hlt3 : u3.heap.size < u4.heap.size := by rw [hw]; simp
                  have hz : At u4 u3.heap.size 9 #[.string (zt (n + 1))] := by rw [hw]; exact heap_alloc_new _ _
                  have hB4 := Below.step hB3 hst3
                  have own2 := own2.later hst3
                  clear hw
                  refine wpAny_ready (rs := [8]) (by decide +kernel) (by simp) ?_
                  refine AllReady.cons rfl (fun KK hK => ?_) AllReady.nil
                  obtain ⟨A4, c4, u5, hrun, own4, hg⟩ := run_append_row (P := Try.prog) 22 el_strs (c2 := 1) own2 (row_of_block hz) (by simp [Value.oneCell']) (by simp [strs, maxLen]; omega) (by simp [strs]; omega) hB4.size
                  have hrun' : (Builtin.append_ #[22, 22] 22 #[.slice A3 cs.length c3, .slice (some ⟨u3.heap.size, 0, none⟩) 1 1]).run Try.prog u4 = .ok (.slice A4 (cs.length + 1) c4) u5 := by simpa [strs] using hrun
                  have own4 : Own u5 wa.heap.size 9 A4 c4 (strs (cs ++ [(zt (n + 1))])) := by simpa [strs] using own4
                  have hB5 : Below wa.heap.size wa u5 := own2.below hB4 hg (Nat.le_refl _) hB4.size
                  refine step_append_d (d := 57) rfl rfl (.tmp 51) (.tmp 56) 22 22 rfl (vs := .slice A3 cs.length c3) (vx := .slice (some ⟨u3.heap.size, 0, none⟩) 1 1) (by simp [Act.eval]) (by simp [Act.eval]) hrun' ?_
                  refine hK _ _ ?_
                  clear hK KK hrun hrun' own2 hg hz
                  simp only [Act.put, List.setIfInBounds_toArray, List.set_cons_zero, List.set_cons_succ]
                  refine Reg.take_at (i := 9) (d := 6) (v := ?_) rfl rfl (by kernel_rfl) (by kernel_rfl) (by kernel_rfl) (fun _ _ _ h => h) (Or.inl ⟨by rfl, ?_⟩) ?_
                  rotate_left 1
                  · intro w; go_simp <;> with_reducible rfl
                  simp only [Act.put, List.setIfInBounds_toArray, List.set_cons_zero, List.set_cons_succ]
                  refine wpAny_done (by kernel_rfl) ?_ _
                  go_wp2_with fail
                  go_meet
                  exact ⟨A4, c4, rfl, own4, hB5⟩
                refine AllReady.cons rfl (fun KK hK => ?_) AllReady.nil
                have hcv := conv_zeros hy
                go_simp
                refine hK _ _ ?_
                clear hK KK hcv hy
                refine wpAny_ready (rs := [2, 7]) (by decide +kernel) (by simp) ?_
                refine AllReady.cons rfl (fun KK hK => ?_) ?_
                · obtain ⟨A3, c3, u3, hrun, own2, hg⟩ := run_append_row (P := Try.prog) 22 el_strs (c2 := c) own0 (HRA.out _ (Below.step hb7 hB2)) (strs_one' cs) (by simp [strs, maxLen]; omega) (by simp [strs]; omega) hB2.size
                  have hrun' : (Builtin.append_ #[22, 22] 22 #[.slice (some ⟨u1.heap.size, 0, none⟩) 0 0, .slice A cs.length c]).run Try.prog u2 = .ok (.slice A3 cs.length c3) u3 := by simpa [strs] using hrun
                  have own2 : Own u3 wa.heap.size 9 A3 c3 (strs cs) := own2
                  have hB3 : Below wa.heap.size wa u3 := own0.below hB2 hg (Nat.le_refl _) hB2.size
                  have hlt2 : u2.heap.size ≤ u3.heap.size := hg.size
                  refine step_append_d (d := 51) rfl rfl (.tmp 49) (.tmp 50) 22 22 rfl (vs := .slice (some ⟨u1.heap.size, 0, none⟩) 0 0) (vx := .slice A cs.length c) (by simp [Act.eval]) (by simp [Act.eval]) hrun' ?_
                  refine hK _ _ ?_
                  clear hK KK hrun hrun' own0 hg
                  simp only [Act.put, List.setIfInBounds_toArray, List.set_cons_zero, List.set_cons_succ]
                  refine wpAny_ready (rs := [7]) (by decide +kernel) (by simp) ?_
                  refine AllReady.cons rfl (fun KK hK => ?_) AllReady.nil
                  go_simp
                  refine hK _ _ ?_
                  clear hK KK
                  obtain ⟨u4, hw⟩ : ∃ v, v = (u3.alloc (.cells #[.string (zt (n + 1))] 9)) := ⟨_, rfl⟩
                  rw [← hw]
                  have hst3 : Below u3.heap.size u3 u4 := by rw [hw]; exact (Below.refl _ _).alloc (Nat.le_refl _) _
                  have hlt3 : u3.heap.size < u4.heap.size := by rw [hw]; simp
                  have hz : At u4 u3.heap.size 9 #[.string (zt (n + 1))] := by rw [hw]; exact heap_alloc_new _ _
                  have hB4 := Below.step hB3 hst3
                  have own2 := own2.later hst3
                  clear hw
                  refine wpAny_ready (rs := [8]) (by decide +kernel) (by simp) ?_
                  refine AllReady.cons rfl (fun KK hK => ?_) AllReady.nil
                  obtain ⟨A4, c4, u5, hrun, own4, hg⟩ := run_append_row (P := Try.prog) 22 el_strs (c2 := 1) own2 (row_of_block hz) (by simp [Value.oneCell']) (by simp [strs, maxLen]; omega) (by simp [strs]; omega) hB4.size
                  have hrun' : (Builtin.append_ #[22, 22] 22 #[.slice A3 cs.length c3, .slice (some ⟨u3.heap.size, 0, none⟩) 1 1]).run Try.prog u4 = .ok (.slice A4 (cs.length + 1) c4) u5 := by simpa [strs] using hrun
                  have own4 : Own u5 wa.heap.size 9 A4 c4 (strs (cs ++ [(zt (n + 1))])) := by simpa [strs] using own4
                  have hB5 : Below wa.heap.size wa u5 := own2.below hB4 hg (Nat.le_refl _) hB4.size
                  refine step_append_d (d := 57) rfl rfl (.tmp 51) (.tmp 56) 22 22 rfl (vs := .slice A3 cs.length c3) (vx := .slice (some ⟨u3.heap.size, 0, none⟩) 1 1) (by simp [Act.eval]) (by simp [Act.eval]) hrun' ?_
                  refine hK _ _ ?_
                  clear hK KK hrun hrun' own2 hg hz
                  simp only [Act.put, List.setIfInBounds_toArray, List.set_cons_zero, List.set_cons_succ]
                  refine Reg.take_at (i := 9) (d := 6) (v := ?_) rfl rfl (by kernel_rfl) (by kernel_rfl) (by kernel_rfl) (fun _ _ _ h => h) (Or.inl ⟨by rfl, ?_⟩) ?_
                  rotate_left 1
                  · intro w; go_simp <;> with_reducible rfl
                  simp only [Act.put, List.setIfInBounds_toArray, List.set_cons_zero, List.set_cons_succ]
                  refine wpAny_done (by kernel_rfl) ?_ _
                  go_wp2_with fail
                  go_meet
                  exact ⟨A4, c4, rfl, own4, hB5⟩
                refine AllReady.cons rfl (fun KK hK => ?_) AllReady.nil
                go_simp
                refine hK _ _ ?_
                clear hK KK
                obtain ⟨u3, hw⟩ : ∃ v, v = (u2.alloc (.cells #[.string (zt (n + 1))] 9)) := ⟨_, rfl⟩
                rw [← hw]
                have hst2 : Below u2.heap.size u2 u3 := by rw [hw]; exact (Below.refl _ _).alloc (Nat.le_refl _) _
                have hlt2 : u2.heap.size < u3.heap.size := by rw [hw]; simp
                have hz : At u3 u2.heap.size 9 #[.string (zt (n + 1))] := by rw [hw]; exact heap_alloc_new _ _
                have hB3 := Below.step hB2 hst2
                have own0 := own0.later hst2
                clear hw
                refine wpAny_ready (rs := [2]) (by decide +kernel) (by simp) ?_
                refine AllReady.cons rfl (fun KK hK => ?_) AllReady.nil
                have hnz : some u2.heap.size ≠ (Value.slice (some ⟨u1.heap.size, 0, none⟩) ([] : List Value).length 0).ownBlock := by simp [Value.ownBlock]; omega
                obtain ⟨A3, c3, u4, hrun, own2, hg⟩ := run_append_row (P := Try.prog) 22 el_strs (c2 := c) own0 (HRA.out _ (Below.step hb7 hB3)) (strs_one' cs) (by simp [strs, maxLen]; omega) (by simp [strs]; omega) hB3.size
                have hrun' : (Builtin.append_ #[22, 22] 22 #[.slice (some ⟨u1.heap.size, 0, none⟩) 0 0, .slice A cs.length c]).run Try.prog u3 = .ok (.slice A3 cs.length c3) u4 := by simpa [strs] using hrun
                have own2 : Own u4 wa.heap.size 9 A3 c3 (strs cs) := own2
                have hB4 : Below wa.heap.size wa u4 := own0.below hB3 hg (Nat.le_refl _) hB3.size
                have hlt3 : u3.heap.size ≤ u4.heap.size := hg.size
                have hz := At.grown hz hg hnz
                refine step_append_d (d := 51) rfl rfl (.tmp 49) (.tmp 50) 22 22 rfl (vs := .slice (some ⟨u1.heap.size, 0, none⟩) 0 0) (vx := .slice A cs.length c) (by simp [Act.eval]) (by simp [Act.eval]) hrun' ?_
                refine hK _ _ ?_
                clear hK KK hrun hrun' own0 hg
                simp only [Act.put, List.setIfInBounds_toArray, List.set_cons_zero, List.set_cons_succ]
                refine wpAny_ready (rs := [8]) (by decide +kernel) (by simp) ?_
                refine AllReady.cons rfl (fun KK hK => ?_) AllReady.nil
                obtain ⟨A4, c4, u5, hrun, own4, hg⟩ := run_append_row (P := Try.prog) 22 el_strs (c2 := 1) own2 (row_of_block hz) (by simp [Value.oneCell']) (by simp [strs, maxLen]; omega) (by simp [strs]; omega) hB4.size
                have hrun' : (Builtin.append_ #[22, 22] 22 #[.slice A3 cs.length c3, .slice (some ⟨u2.heap.size, 0, none⟩) 1 1]).run Try.prog u4 = .ok (.slice A4 (cs.length + 1) c4) u5 := by simpa [strs] using hrun
                have own4 : Own u5 wa.heap.size 9 A4 c4 (strs (cs ++ [(zt (n + 1))])) := by simpa [strs] using own4
                have hB5 : Below wa.heap.size wa u5 := own2.below hB4 hg (Nat.le_refl _) hB4.size
                refine step_append_d (d := 57) rfl rfl (.tmp 51) (.tmp 56) 22 22 rfl (vs := .slice A3 cs.length c3) (vx := .slice (some ⟨u2.heap.size, 0, none⟩) 1 1) (by simp [Act.eval]) (by simp [Act.eval]) hrun' ?_
                refine hK _ _ ?_
                clear hK KK hrun hrun' own2 hg hz
                simp only [Act.put, List.setIfInBounds_toArray, List.set_cons_zero, List.set_cons_succ]
                refine Reg.take_at (i := 9) (d := 6) (v := ?_) rfl rfl (by kernel_rfl) (by kernel_rfl) (by kernel_rfl) (fun _ _ _ h => h) (Or.inl ⟨by rfl, ?_⟩) ?_
                rotate_left 1
                · intro w; go_simp <;> with_reducible rfl
                simp only [Act.put, List.setIfInBounds_toArray, List.set_cons_zero, List.set_cons_succ]
                refine wpAny_done (by kernel_rfl) ?_ _
                go_wp2_with fail
                go_meet
                exact ⟨A4, c4, rfl, own4, hB5⟩
              refine AllReady.cons rfl (fun KK hK => ?_) AllReady.nil
              have hcv := conv_zeros hy
              go_simp
              refine hK _ _ ?_
              clear hK KK hcv hy
              refine wpAny_ready (rs := [0, 7]) (by decide +kernel) (by simp) ?_
              refine AllReady.cons rfl (fun KK hK => ?_) ?_
              · go_simp
                refine hK _ _ ?_
                clear hK KK
                obtain ⟨u2, hw⟩ : ∃ v, v = (u1.alloc (.cells #[] 9)) := ⟨_, rfl⟩
                rw [← hw]
                have hst1 : Below u1.heap.size u1 u2 := by rw [hw]; exact (Below.refl _ _).alloc (Nat.le_refl _) _
                have hlt1 : u1.heap.size < u2.heap.size := by rw [hw]; simp
                have own0 : Own u2 wa.heap.size 9 (some ⟨u1.heap.size, 0, none⟩) 0 [] := by rw [hw]; exact Own.empty u1 _ hB1.size
                have hB2 := Below.step hB1 hst1
                clear hw
                refine wpAny_ready (rs := [2, 7]) (by decide +kernel) (by simp) ?_
                refine AllReady.cons rfl (fun KK hK => ?_) ?_
                · obtain ⟨A3, c3, u3, hrun, own2, hg⟩ := run_append_row (P := Try.prog) 22 el_strs (c2 := c) own0 (HRA.out _ (Below.step hb7 hB2)) (strs_one' cs) (by simp [strs, maxLen]; omega) (by simp [strs]; omega) hB2.size
                  have hrun' : (Builtin.append_ #[22, 22] 22 #[.slice (some ⟨u1.heap.size, 0, none⟩) 0 0, .slice A cs.length c]).run Try.prog u2 = .ok (.slice A3 cs.length c3) u3 := by simpa [strs] using hrun
                  have own2 : Own u3 wa.heap.size 9 A3 c3 (strs cs) := own2
                  have hB3 : Below wa.heap.size wa u3 := own0.below hB2 hg (Nat.le_refl _) hB2.size
                  have hlt2 : u2.heap.size ≤ u3.heap.size := hg.size
                  refine step_append_d (d := 51) rfl rfl (.tmp 49) (.tmp 50) 22 22 rfl (vs := .slice (some ⟨u1.heap.size, 0, none⟩) 0 0) (vx := .slice A cs.length c) (by simp [Act.eval]) (by simp [Act.eval]) hrun' ?_
                  refine hK _ _ ?_
                  clear hK KK hrun hrun' own0 hg
                  simp only [Act.put, List.setIfInBounds_toArray, List.set_cons_zero, List.set_cons_succ]
                  refine wpAny_ready (rs := [7]) (by decide +kernel) (by simp) ?_
                  refine AllReady.cons rfl (fun KK hK => ?_) AllReady.nil
                  go_simp
                  refine hK _ _ ?_
                  clear hK KK
                  obtain ⟨u4, hw⟩ : ∃ v, v = (u3.alloc (.cells #[.string (zt (n + 1))] 9)) := ⟨_, rfl⟩
                  rw [← hw]
                  have hst3 : Below u3.heap.size u3 u4 := by rw [hw]; exact (Below.refl _ _).alloc (Nat.le_refl _) _
                  have hlt3 : u3.heap.size < u4.heap.size := by rw [hw]; simp
                  have hz : At u4 u3.heap.size 9 #[.string (zt (n + 1))] := by rw [hw]; exact heap_alloc_new _ _
                  have hB4 := Below.step hB3 hst3
                  have own2 := own2.later hst3
                  clear hw
                  refine wpAny_ready (rs := [8]) (by decide +kernel) (by simp) ?_
                  refine AllReady.cons rfl (fun KK hK => ?_) AllReady.nil
                  obtain ⟨A4, c4, u5, hrun, own4, hg⟩ := run_append_row (P := Try.prog) 22 el_strs (c2 := 1) own2 (row_of_block hz) (by simp [Value.oneCell']) (by simp [strs, maxLen]; omega) (by simp [strs]; omega) hB4.size
                  have hrun' : (Builtin.append_ #[22, 22] 22 #[.slice A3 cs.length c3, .slice (some ⟨u3.heap.size, 0, none⟩) 1 1]).run Try.prog u4 = .ok (.slice A4 (cs.length + 1) c4) u5 := by simpa [strs] using hrun
                  have own4 : Own u5 wa.heap.size 9 A4 c4 (strs (cs ++ [(zt (n + 1))])) := by simpa [strs] using own4
                  have hB5 : Below wa.heap.size wa u5 := own2.below hB4 hg (Nat.le_refl _) hB4.size
                  refine step_append_d (d := 57) rfl rfl (.tmp 51) (.tmp 56) 22 22 rfl (vs := .slice A3 cs.length c3) (vx := .slice (some ⟨u3.heap.size, 0, none⟩) 1 1) (by simp [Act.eval]) (by simp [Act.eval]) hrun' ?_
                  refine hK _ _ ?_
                  clear hK KK hrun hrun' own2 hg hz
                  simp only [Act.put, List.setIfInBounds_toArray, List.set_cons_zero, List.set_cons_succ]
                  refine Reg.take_at (i := 9) (d := 6) (v := ?_) rfl rfl (by kernel_rfl) (by kernel_rfl) (by kernel_rfl) (fun _ _ _ h => h) (Or.inl ⟨by rfl, ?_⟩) ?_
                  rotate_left 1
                  · intro w; go_simp <;> with_reducible rfl
                  simp only [Act.put, List.setIfInBounds_toArray, List.set_cons_zero, List.set_cons_succ]
                  refine wpAny_done (by kernel_rfl) ?_ _
                  go_wp2_with fail
                  go_meet
                  exact ⟨A4, c4, rfl, own4, hB5⟩
                refine AllReady.cons rfl (fun KK hK => ?_) AllReady.nil
                go_simp
                refine hK _ _ ?_
                clear hK KK
                obtain ⟨u3, hw⟩ : ∃ v, v = (u2.alloc (.cells #[.string (zt (n + 1))] 9)) := ⟨_, rfl⟩
                rw [← hw]
                have hst2 : Below u2.heap.size u2 u3 := by rw [hw]; exact (Below.refl _ _).alloc (Nat.le_refl _) _
                have hlt2 : u2.heap.size < u3.heap.size := by rw [hw]; simp
                have hz : At u3 u2.heap.size 9 #[.string (zt (n + 1))] := by rw [hw]; exact heap_alloc_new _ _
                have hB3 := Below.step hB2 hst2
                have own0 := own0.later hst2
                clear hw
                refine wpAny_ready (rs := [2]) (by decide +kernel) (by simp) ?_
                refine AllReady.cons rfl (fun KK hK => ?_) AllReady.nil
                have hnz : some u2.heap.size ≠ (Value.slice (some ⟨u1.heap.size, 0, none⟩) ([] : List Value).length 0).ownBlock := by simp [Value.ownBlock]; omega
                obtain ⟨A3, c3, u4, hrun, own2, hg⟩ := run_append_row (P := Try.prog) 22 el_strs (c2 := c) own0 (HRA.out _ (Below.step hb7 hB3)) (strs_one' cs) (by simp [strs, maxLen]; omega) (by simp [strs]; omega) hB3.size
                have hrun' : (Builtin.append_ #[22, 22] 22 #[.slice (some ⟨u1.heap.size, 0, none⟩) 0 0, .slice A cs.length c]).run Try.prog u3 = .ok (.slice A3 cs.length c3) u4 := by simpa [strs] using hrun
                have own2 : Own u4 wa.heap.size 9 A3 c3 (strs cs) := own2
                have hB4 : Below wa.heap.size wa u4 := own0.below hB3 hg (Nat.le_refl _) hB3.size
                have hlt3 : u3.heap.size ≤ u4.heap.size := hg.size
                have hz := At.grown hz hg hnz
                refine step_append_d (d := 51) rfl rfl (.tmp 49) (.tmp 50) 22 22 rfl (vs := .slice (some ⟨u1.heap.size, 0, none⟩) 0 0) (vx := .slice A cs.length c) (by simp [Act.eval]) (by simp [Act.eval]) hrun' ?_
                refine hK _ _ ?_
                clear hK KK hrun hrun' own0 hg
                simp only [Act.put, List.setIfInBounds_toArray, List.set_cons_zero, List.set_cons_succ]
                refine wpAny_ready (rs := [8]) (by decide +kernel) (by simp) ?_
                refine AllReady.cons rfl (fun KK hK => ?_) AllReady.nil
                obtain ⟨A4, c4, u5, hrun, own4, hg⟩ := run_append_row (P := Try.prog) 22 el_strs (c2 := 1) own2 (row_of_block hz) (by simp [Value.oneCell']) (by simp [strs, maxLen]; omega) (by simp [strs]; omega) hB4.size
                have hrun' : (Builtin.append_ #[22, 22] 22 #[.slice A3 cs.length c3, .slice (some ⟨u2.heap.size, 0, none⟩) 1 1]).run Try.prog u4 = .ok (.slice A4 (cs.length + 1) c4) u5 := by simpa [strs] using hrun
                have own4 : Own u5 wa.heap.size 9 A4 c4 (strs (cs ++ [(zt (n + 1))])) := by simpa [strs] using own4
                have hB5 : Below wa.heap.size wa u5 := own2.below hB4 hg (Nat.le_refl _) hB4.size
                refine step_append_d (d := 57) rfl rfl (.tmp 51) (.tmp 56) 22 22 rfl (vs := .slice A3 cs.length c3) (vx := .slice (some ⟨u2.heap.size, 0, none⟩) 1 1) (by simp [Act.eval]) (by simp [Act.eval]) hrun' ?_
                refine hK _ _ ?_
                clear hK KK hrun hrun' own2 hg hz
                simp only [Act.put, List.setIfInBounds_toArray, List.set_cons_zero, List.set_cons_succ]
                refine Reg.take_at (i := 9) (d := 6) (v := ?_) rfl rfl (by kernel_rfl) (by kernel_rfl) (by kernel_rfl) (fun _ _ _ h => h) (Or.inl ⟨by rfl, ?_⟩) ?_
                rotate_left 1
                · intro w; go_simp <;> with_reducible rfl
                simp only [Act.put, List.setIfInBounds_toArray, List.set_cons_zero, List.set_cons_succ]
                refine wpAny_done (by kernel_rfl) ?_ _
                go_wp2_with fail
                go_meet
                exact ⟨A4, c4, rfl, own4, hB5⟩
              refine AllReady.cons rfl (fun KK hK => ?_) AllReady.nil
              go_simp
              refine hK _ _ ?_
              clear hK KK
              obtain ⟨u2, hw⟩ : ∃ v, v = (u1.alloc (.cells #[.string (zt (n + 1))] 9)) := ⟨_, rfl⟩
              rw [← hw]
              have hst1 : Below u1.heap.size u1 u2 := by rw [hw]; exact (Below.refl _ _).alloc (Nat.le_refl _) _
              have hlt1 : u1.heap.size < u2.heap.size := by rw [hw]; simp
              have hz : At u2 u1.heap.size 9 #[.string (zt (n + 1))] := by rw [hw]; exact heap_alloc_new _ _
              have hB2 := Below.step hB1 hst1
              clear hw
              refine wpAny_ready (rs := [0]) (by decide +kernel) (by simp) ?_
              refine AllReady.cons rfl (fun KK hK => ?_) AllReady.nil
              go_simp
              refine hK _ _ ?_
              clear hK KK
              obtain ⟨u3, hw⟩ : ∃ v, v = (u2.alloc (.cells #[] 9)) := ⟨_, rfl⟩
              rw [← hw]
              have hst2 : Below u2.heap.size u2 u3 := by rw [hw]; exact (Below.refl _ _).alloc (Nat.le_refl _) _
              have hlt2 : u2.heap.size < u3.heap.size := by rw [hw]; simp
              have own0 : Own u3 wa.heap.size 9 (some ⟨u2.heap.size, 0, none⟩) 0 [] := by rw [hw]; exact Own.empty u2 _ hB2.size
              have hB3 := Below.step hB2 hst2
              have hz := at_below hz hst2
              clear hw
              refine wpAny_ready (rs := [2]) (by decide +kernel) (by simp) ?_
              refine AllReady.cons rfl (fun KK hK => ?_) AllReady.nil
              have hnz : some u1.heap.size ≠ (Value.slice (some ⟨u2.heap.size, 0, none⟩) ([] : List Value).length 0).ownBlock := by simp [Value.ownBlock]; omega
              obtain ⟨A3, c3, u4, hrun, own2, hg⟩ := run_append_row (P := Try.prog) 22 el_strs (c2 := c) own0 (HRA.out _ (Below.step hb7 hB3)) (strs_one' cs) (by simp [strs, maxLen]; omega) (by simp [strs]; omega) hB3.size
              have hrun' : (Builtin.append_ #[22, 22] 22 #[.slice (some ⟨u2.heap.size, 0, none⟩) 0 0, .slice A cs.length c]).run Try.prog u3 = .ok (.slice A3 cs.length c3) u4 := by simpa [strs] using hrun
              have own2 : Own u4 wa.heap.size 9 A3 c3 (strs cs) := own2
              have hB4 : Below wa.heap.size wa u4 := own0.below hB3 hg (Nat.le_refl _) hB3.size
              have hlt3 : u3.heap.size ≤ u4.heap.size := hg.size
              have hz := At.grown hz hg hnz
              refine step_append_d (d := 51) rfl rfl (.tmp 49) (.tmp 50) 22 22 rfl (vs := .slice (some ⟨u2.heap.size, 0, none⟩) 0 0) (vx := .slice A cs.length c) (by simp [Act.eval]) (by simp [Act.eval]) hrun' ?_
              refine hK _ _ ?_
              clear hK KK hrun hrun' own0 hg
              simp only [Act.put, List.setIfInBounds_toArray, List.set_cons_zero, List.set_cons_succ]
              refine wpAny_ready (rs := [8]) (by decide +kernel) (by simp) ?_
              refine AllReady.cons rfl (fun KK hK => ?_) AllReady.nil
              obtain ⟨A4, c4, u5, hrun, own4, hg⟩ := run_append_row (P := Try.prog) 22 el_strs (c2 := 1) own2 (row_of_block hz) (by simp [Value.oneCell']) (by simp [strs, maxLen]; omega) (by simp [strs]; omega) hB4.size
              have hrun' : (Builtin.append_ #[22, 22] 22 #[.slice A3 cs.length c3, .slice (some ⟨u1.heap.size, 0, none⟩) 1 1]).run Try.prog u4 = .ok (.slice A4 (cs.length + 1) c4) u5 := by simpa [strs] using hrun
              have own4 : Own u5 wa.heap.size 9 A4 c4 (strs (cs ++ [(zt (n + 1))])) := by simpa [strs] using own4
              have hB5 : Below wa.heap.size wa u5 := own2.below hB4 hg (Nat.le_refl _) hB4.size
              refine step_append_d (d := 57) rfl rfl (.tmp 51) (.tmp 56) 22 22 rfl (vs := .slice A3 cs.length c3) (vx := .slice (some ⟨u1.heap.size, 0, none⟩) 1 1) (by simp [Act.eval]) (by simp [Act.eval]) hrun' ?_
              refine hK _ _ ?_
              clear hK KK hrun hrun' own2 hg hz
              simp only [Act.put, List.setIfInBounds_toArray, List.set_cons_zero, List.set_cons_succ]
              refine Reg.take_at (i := 9) (d := 6) (v := ?_) rfl rfl (by kernel_rfl) (by kernel_rfl) (by kernel_rfl) (fun _ _ _ h => h) (Or.inl ⟨by rfl, ?_⟩) ?_
              rotate_left 1
              · intro w; go_simp <;> with_reducible rfl
              simp only [Act.put, List.setIfInBounds_toArray, List.set_cons_zero, List.set_cons_succ]
              refine wpAny_done (by kernel_rfl) ?_ _
              go_wp2_with fail
              go_meet
              exact ⟨A4, c4, rfl, own4, hB5⟩
            case rest =>
              obtain ⟨A6, c6, rfl, OW6, hbd⟩ := hcut
              have hb8 := Below.step hb7 hbd
              have s8 := s7.below hbd
              have OW7 := OW5.later hbd
              have hg8 : g < wc.heap.size := Ready.lt s8
              clear hmk2 s7 hb7 OW5 HAS
              have e1 : (cs ++ [zt n]).length = cs.length + 1 := by simp
              have e2 : (cs ++ [zt (n + 1)]).length = cs.length + 1 := by simp
              have z1 : ∀ q ∈ cs ++ [zt n], q.size ≤ 1000 := fun q hq => by
                rcases List.mem_append.1 hq with h | h
                · exact HZ.out q h
                · rw [List.mem_singleton.1 h, zt_size]; omega
              have z2 : ∀ q ∈ cs ++ [zt (n + 1)], q.size ≤ 1000 := fun q hq => by
                rcases List.mem_append.1 hq with h | h
                · exact HZ.out q h
                · rw [List.mem_singleton.1 h, zt_size]; omega
              have r1 : room (cs ++ [zt n]) = 236 := by rw [room_append, room_one, zt_size, HRR.out]; have := HN.out; omega
              have r2 : room (cs ++ [zt (n + 1)]) = 237 := by rw [room_append, room_one, zt_size, HRR.out]; have := HN.out; omega
              have p1 : err ⟨1, 0, 0, 0, cs ++ [zt n]⟩ = 0 := (err_zero _).2 ⟨by show room (cs ++ [zt n]) ≤ 236; omega, by unfold PgOk; simp⟩
              have p2 : err ⟨1, 0, 0, 0, cs ++ [zt (n + 1)]⟩ = 40 := by unfold err; rw [if_neg (by show ¬ room (cs ++ [zt (n + 1)]) ≤ 236; omega)]
              have hgw : g < wc.heap.size := hg8
              have hga : g < wa.heap.size := Nat.lt_of_lt_of_le hx3 hbc.size
              have rx1 : RowX wc g A5 (strs (cs ++ [zt n])) := own_rowX OW7 hx3
              have hput1 : Calls Try.prog 13 #[.pointer (some ⟨g, 0, none⟩), .agg #[.int .i64 1, .int .i64 0, .int .i64 0, .int .i64 0, .slice A5 (cs.length + 1) c5]] wc fun e w' => ∃ b, e = .returned (.tuple #[.slice (some ⟨b, 0, none⟩) 256 256, .int .i64 0]) ∧ wc.heap.size ≤ b ∧ Arr w' b 65 (page ⟨1, 0, 0, 0, cs ++ [zt n]⟩) ∧ Ready w' g (0 + 252) ∧ Only g wc w' := by
                have := put_good g 0 wc ⟨1, 0, 0, 0, cs ++ [zt n]⟩ A5 c5 s8 (by omega) (by omega) rx1 (by show (cs ++ [zt n]).length ≤ 1000; omega) z1 p1
                simp only [pv] at this
                rw [e1] at this
                exact this
              go_wp2_with fail
              refine hput1.mono ?_
              rintro e w9 ⟨b, rfl, _, _, s9, o9⟩
              have hb9 : Below W.heap.size W w9 := hb8.trans (o9.below hg hgw)
              have rx2 : RowX w9 g A6 (strs (cs ++ [zt (n + 1)])) := (own_rowX OW6 hga).only o9
              have rx3 : RowX w9 g A5 (strs (cs ++ [zt n])) := rx1.only o9
              have hput2 : Calls Try.prog 13 #[.pointer (some ⟨g, 0, none⟩), .agg #[.int .i64 1, .int .i64 0, .int .i64 0, .int .i64 0, .slice A6 (cs.length + 1) c6]] w9 fun e w' => e = .returned (.tuple #[.slice none 0 0, .int .i64 40]) ∧ Ready w' g (0 + 252) ∧ Only g w9 w' := by
                have := put_bad g (0 + 252) w9 ⟨1, 0, 0, 0, cs ++ [zt (n + 1)]⟩ A6 c6 s9 rx2 (by show (cs ++ [zt (n + 1)]).length ≤ 1000; omega) z2 (by rw [p2]; decide)
                rw [p2] at this
                simp only [pv] at this
                rw [e2] at this
                exact this
              clear hput1 rx1 o9
              have hg9 := Ready.lt s9
              go_wp2_with fail
              refine hput2.mono ?_
              rintro e w10 ⟨rfl, s10, o10⟩
              have hb10 : Below W.heap.size W w10 := hb9.trans (o10.below hg hg9)
              have fi1 : Calls Try.prog 17 #[.slice A5 (cs.length + 1) c5] w10 fun e w' => e = .returned (.bool true) ∧ w10 = w' := by
                have := fits_any w10 A5 (cs.length + 1) c5 (cs ++ [zt n]) e1.symm (rowX_row (rx3.only o10)) (by omega) z1
                rwa [r1] at this
              have fi2 : Calls Try.prog 17 #[.slice A6 (cs.length + 1) c6] w10 fun e w' => e = .returned (.bool false) ∧ w10 = w' := by
                have := fits_any w10 A6 (cs.length + 1) c6 (cs ++ [zt (n + 1)]) e2.symm (rowX_row (rx2.only o10)) (by omega) z2
                rwa [r2] at this
              clear hput2 o10 s10 s9 rx2 rx3 r1 r2 p1 p2 e1 e2 z1 z2
              go_wp2_with fail
              refine fi1.mono ?_
              rintro e w11 ⟨rfl, rfl⟩
              clear fi1
              go_wp2_with fail
              refine fi2.mono ?_
              rintro e w11 ⟨rfl, rfl⟩
              clear fi2
              go_wp2_with fail
              go_ret
              exact ⟨rfl, hb10⟩
        · have hneg : (236 : Int) - (room cs : Nat) - 2 < 0 := by omega
          go_enter Try.func9, Try.ntmps9
          go_wp2_with fail
          refine (new_g _).mono ?_
          rintro e w1 ⟨g, rfl, hg, hx1, s1, b1⟩
          go_wp2_with fail
          refine (awakeL b1).mono ?_
          rintro e w2 ⟨rfl, b2, b3⟩
          have s2 := s1.below b2
          have hx2 : g < w2.heap.size := Nat.lt_of_lt_of_le hx1 b2.size
          clear s1 b1 b2 hx1
          go_wp2_with fail
          refine (hfe w2 b3).mono ?_
          rintro e w3 ⟨rfl, b4⟩
          have b5 := Below.step b3 b4
          have s3 := s2.below b4
          have hx3 : g < w3.heap.size := Nat.lt_of_lt_of_le hx2 b4.size
          clear s2 b3 b4 hx2
          go_wp2_with fail
          refine (hfi w3 b5).mono ?_
          rintro e w4 ⟨rfl, rfl⟩
          go_wp2_with fail
          refine (hrm w3 b5).mono ?_
          rintro e w4 ⟨rfl, rfl⟩
          clear hfe hfi hrm
          go_wp2_with fail
          go_ret
          exact ⟨rfl, b5⟩
      · rw [decide_eq_false h3] at hfi
        go_enter Try.func9, Try.ntmps9
        go_wp2_with fail
        refine (new_g _).mono ?_
        rintro e w1 ⟨g, rfl, hg, hx1, s1, b1⟩
        go_wp2_with fail
        refine (awakeL b1).mono ?_
        rintro e w2 ⟨rfl, b2, b3⟩
        have s2 := s1.below b2
        have hx2 : g < w2.heap.size := Nat.lt_of_lt_of_le hx1 b2.size
        clear s1 b1 b2 hx1
        go_wp2_with fail
        refine (hfe w2 b3).mono ?_
        rintro e w3 ⟨rfl, b4⟩
        have b5 := Below.step b3 b4
        have s3 := s2.below b4
        have hx3 : g < w3.heap.size := Nat.lt_of_lt_of_le hx2 b4.size
        clear s2 b3 b4 hx2
        go_wp2_with fail
        refine (hfi w3 b5).mono ?_
        rintro e w4 ⟨rfl, rfl⟩
        go_wp2_with fail
        refine (awakeL b5).mono ?_
        rintro e w4 ⟨rfl, b6, b7⟩
        go_wp2_with fail
        go_ret
        exact ⟨rfl, b7⟩
    · have h2' : (100 : Int) < (cs.length : Int) := by omega
      go_enter Try.func9, Try.ntmps9
      go_wp2_with fail
      refine (new_g _).mono ?_
      rintro e w1 ⟨g, rfl, hg, hx1, s1, b1⟩
      go_wp2_with fail
      refine (awakeL b1).mono ?_
      rintro e w2 ⟨rfl, b2, b3⟩
      have s2 := s1.below b2
      have hx2 : g < w2.heap.size := Nat.lt_of_lt_of_le hx1 b2.size
      clear s1 b1 b2 hx1
      go_wp2_with fail
      refine (hfe w2 b3).mono ?_
      rintro e w3 ⟨rfl, b4⟩
      have b5 := Below.step b3 b4
      have s3 := s2.below b4
      have hx3 : g < w3.heap.size := Nat.lt_of_lt_of_le hx2 b4.size
      clear s2 b3 b4 hx2
      go_wp2_with fail
      refine (awakeL b5).mono ?_
      rintro e w4 ⟨rfl, b6, b7⟩
      go_wp2_with fail
      go_ret
      exact ⟨rfl, b7⟩
  · have hfe := fun (x : World) (h : Below W.heap.size W x) => hfe x h false ⟨fun q => (by cases q), fun q => absurd q h1⟩
    go_enter Try.func9, Try.ntmps9
    go_wp2_with fail
    refine (new_g _).mono ?_
    rintro e w1 ⟨g, rfl, hg, hx1, s1, b1⟩
    go_wp2_with fail
    refine (awakeL b1).mono ?_
    rintro e w2 ⟨rfl, b2, b3⟩
    have s2 := s1.below b2
    have hx2 : g < w2.heap.size := Nat.lt_of_lt_of_le hx1 b2.size
    clear s1 b1 b2 hx1
    go_wp2_with fail
    refine (hfe w2 b3).mono ?_
    rintro e w3 ⟨rfl, b4⟩
    have b5 := Below.step b3 b4
    have s3 := s2.below b4
    have hx3 : g < w3.heap.size := Nat.lt_of_lt_of_le hx2 b4.size
    clear s2 b3 b4 hx2
    go_wp2_with fail
    refine (awakeL b5).mono ?_
    rintro e w4 ⟨rfl, b6, b7⟩
    go_wp2_with fail
    go_ret
    exact ⟨rfl, b7⟩
end Go.Proofs.Ytlcnnebnocjelaa.PageMost
