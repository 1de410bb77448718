/- The walk of FactsFind. -/
import Derived.Test.YtilcnhdfdgmekaaGreatKFactsRefH
namespace Go.Proofs.YtilcnhdfdgmekaaGreat.FactsFindL
open Go.RowKit Base KeyPlain TuplePlain TupleRef TupleSpec TupleCut FMap FactsPlain FactsMem FactsHas FactsPut FactsDrop FactsNew FactsFind FactsLess FactsObj FactsUsersOf FactsNames FactsOrder FactsRefS FactsFew FactsIs FactsAwake TurnB RowN FactsLawP FactsRefP FactsRefN FactsRefU FactsRefF FactsRefG FactsRefO FactsRefB FactsRefH

theorem find_len (m : List Tp) (x : Tp) (z : Int) : (find m x z).length ≤ m.length := by
  unfold find
  rw [List.length_take]
  exact Nat.le_trans (Nat.min_le_right _ _) (List.length_filter_le _ _)
theorem objects_len (m : List Tp) (k : ByteArray) : (objects m k).length ≤ 2 * m.length := Nat.le_trans (FactsPlain.mk_len _) (names_len k m)
theorem people_len (m : List Tp) : (people m).length ≤ m.length := Nat.le_trans (FactsPlain.mk_len _) (by rw [List.length_map]; exact Nat.le_refl _)
set_option maxRecDepth 100000 in
set_option maxHeartbeats 51200000 in
theorem find_law (A : Option Addr) (c : Nat) (l : List Tp) (x : Tp) (z : Int) (W : World) (hr : TRow W A l) (hT : ∀ t ∈ l, TpF t) (hz : l.length * 96 ≤ reachBytes) (hx : TpF x) :
    Calls Tryz.prog 4 #[.slice A l.length c, .agg (tc x), .int .i64 z] W (Law W) := by
  have HR := Lib.hid hr
  have HTF := Lib.hid hT
  have HZ := Lib.hid hz
  obtain ⟨n, hn⟩ : ∃ v, v = l.length := ⟨_, rfl⟩
  rw [← hn] at hz ⊢
  have HZ := Lib.hid (show n * 96 ≤ 140737488355328 by unfold reachBytes at hz; omega)
  have HNL := Lib.hid hn
  obtain ⟨m, hm⟩ : ∃ v, new l = v := ⟨_, rfl⟩
  have HM := Lib.hid hm
  have HML := Lib.hid (show m.length * 96 ≤ 140737488355328 by have := new_len l; rw [hm] at this; unfold reachBytes at hz; omega)
  have HUX := Lib.hid (show UsF ⟨x.k, x.i, x.r⟩ from ⟨hx.1, hx.2.1, hx.2.2.1⟩)
  have HUU := Lib.hid (show ∀ t ∈ m, UsF t.u from fun t ht => (hT t (new_mem.1 (by rw [hm]; exact ht)).1).2.2.2)
  clear hr hT hz hn hm hx
  obtain ⟨w1, hw1⟩ : ∃ v, v = W.alloc (.cells (tc x) 43) := ⟨_, rfl⟩
  obtain ⟨b4, hb4⟩ : ∃ v, v = W.heap.size := ⟨_, rfl⟩
  have bl1 : Below W.heap.size W w1 := by rw [hw1]; exact al _ _
  have a4 : w1.heap[b4]? = some (.cells (tc x) 43 (0, 0)) := by rw [hw1, hb4]; exact heap_alloc_new W _
  have hx1 : Bx w1 b4 x := six_at a4
  have HX := Lib.hid hx1
  have HBw1 := Lib.hid bl1
  have HB4 := Lib.hid hb4
  unfold tc at hw1 ⊢
  have HW1 := Lib.hid hw1
  clear hw1 hb4 bl1 a4 hx1
  go_enter Tryz.func4, Tryz.ntmps4
  go_upto_region 1 with fail
  rw [← HW1.out, ← HB4.out]
  obtain ⟨A1, c1, w3, hrun, hr1, hb1⟩ := run_copy (c := c) HNL.out (HR.out.below HBw1.out) HZ.out 22
  have HNEW := Lib.hid (is_new (n := n) (c := c1) l HNL.out (by have := HZ.out; omega) hr1 HTF.out)
  have HBM := Lib.hid (HBw1.out.trans (hb1.mono HBw1.out.size))
  have HX3 := Lib.hid (HX.out.below hb1)
  clear hr1 hb1
  go_wp2_with (at_builtin; first | refine wpList_append_run rfl (.tmp 9) (.tmp 10) 22 22 rfl rfl rfl hrun ?_)
  clear hrun
  (with_reducible refine HNEW.out.mono ?_)
  rintro e w4 hq
  unfold MadePost at hq
  obtain ⟨fb, rfl, his, hbn⟩ := hq
  rw [HM.out] at his
  have HIS := Lib.hid his
  have HBw4 := Lib.hid (HBM.out.trans (hbn.mono HBM.out.size))
  have HX4 := Lib.hid (HX3.out.below hbn)
  obtain ⟨lo, hlo⟩ : ∃ v, v = w3.heap.size := ⟨_, rfl⟩
  rw [← hlo] at HIS
  clear his hbn HNEW HBM hlo
  go_wp2_with fail
  (with_reducible refine (awake_any _).mono ?_)
  rintro e w5 ⟨rfl, hb⟩
  have HBw5 := Lib.hid (HBw4.out.trans (hb.mono HBw4.out.size))
  have HIS5 := Lib.hid (HIS.out.below hb)
  have HX5 := Lib.hid (HX4.out.below hb)
  clear hb HIS
  have hfew := few_any w5 A n c l HNL.out (rowT (HR.out.below HBw5.out)) (by have := HZ.out; omega)
  go_wp2_with fail
  (with_reducible refine hfew.mono ?_)
  clear hfew
  rintro e w6 ⟨rfl, hb⟩
  have HBw6 := Lib.hid (HBw5.out.trans (hb.mono HBw5.out.size))
  cases hf : fewB l with
  | false =>
    clear hb hf
    go_wp2_with fail
    (with_reducible refine (awake_any _).mono ?_)
    rintro e wz ⟨rfl, hbz⟩
    have HBZ := Lib.hid (HBw6.out.trans (hbz.mono HBw6.out.size))
    clear hbz
    go_wp2_with fail
    go_ret
    exact ⟨rfl, HBZ.out⟩
  | true =>
    have HIS6 := Lib.hid (HIS5.out.below hb)
    have HX6 := Lib.hid (HX5.out.below hb)
    have HL80 := Lib.hid (show n ≤ 80 by have := few_len hf; have := HNL.out; omega)
    have HM80 := Lib.hid (show m.length ≤ 80 by have := new_len l; rw [HM.out] at this; have := HL80.out; have := HNL.out; omega)
    have HSI := Lib.hid (show ∀ t ∈ m, t.i.size ≤ 1000000 ∧ t.u.i.size ≤ 1000000 from fun t ht => by
      have h1 : t ∈ l := (new_mem.1 (by rw [HM.out]; exact ht)).1
      have hff := hf
      unfold fewB at hff
      rw [Bool.and_eq_true] at hff
      have h2 := short_few (List.all_eq_true.1 hff.1 t h1)
      have h3 := h2 t.i (by simp [Tp.parts])
      have h4 := h2 t.u.i (by simp [Tp.parts])
      exact ⟨by omega, by omega⟩)
    clear hb hf HIS5
    have hnew := rnew_any w6 A n c l HNL.out (HR.out.below HBw6.out) (by have := HL80.out; omega) HTF.out
    rw [HM.out] at hnew
    unfold RNewPost at hnew
    go_wp2_with fail
    (with_reducible refine hnew.mono ?_)
    clear hnew
    rintro e w8 ⟨Am, cm, nm, hnm, rfl, hrm, hbm⟩
    have HIS8 := Lib.hid (HIS6.out.below hbm)
    have HX8 := Lib.hid (HX6.out.below hbm)
    have HBw8 := Lib.hid (HBw6.out.trans (hbm.mono HBw6.out.size))
    have HNM := Lib.hid hnm
    have HRM := Lib.hid hrm
    clear hnm hrm hbm
    go_wp2_with fail
    refine wp_region_any (by kernel_rfl) ?_
    change wpAny _ _ _ _ _ _ _ (World.drew _)
    obtain ⟨y0, hy0⟩ : ∃ v, v = World.drew w8 := ⟨_, rfl⟩
    rw [← hy0]
    have hs0 : Bx y0 b4 x := by rw [hy0]; exact HX8.out.below (Below.refl _ _).drew
    have hb0 : Below w8.heap.size w8 y0 := by rw [hy0]; exact (Below.refl _ _).drew
    clear hy0
    refine Held.any_of_G (S := (fun w' : World => Bx w' b4 x)) (z := 46) _ _ _ _ ?_
    refine Held.G_take (i := 0) (d := 27) (v := ?_) [0, 3, 7, 8, 9, 10, 11, 12, 13, 14, 15, 16, 17, 18, 19, 20, 21, 22, 23, 24, 25, 26, 27, 28, 29, 30, 31, 32, 33, 34, 35, 36, 37, 38, 39, 40, 41, 42, 43, 44, 45, 46] rfl rfl (by kernel_rfl) (by kernel_rfl) (by kernel_rfl) (by kernel_rfl) (fun _ _ _ h => h) (Or.inl ⟨by rfl, ?_⟩) hs0 ?_
    rotate_left 1
    · intro w hSw; clear hSw; go_simp <;> with_reducible rfl
    simp only [Act.put, List.setIfInBounds_toArray, List.set_cons_zero, List.set_cons_succ]
    refine Held.G_take (i := 1) (d := 28) (v := ?_) [1, 3, 7, 8, 9, 10, 11, 12, 13, 14, 15, 16, 17, 18, 19, 20, 21, 22, 23, 24, 25, 26, 27, 28, 29, 30, 31, 32, 33, 34, 35, 36, 37, 38, 39, 40, 41, 42, 43, 44, 45, 46] rfl rfl (by kernel_rfl) (by kernel_rfl) (by kernel_rfl) (by kernel_rfl) (fun _ _ _ h => h) (Or.inl ⟨by rfl, ?_⟩) hs0 ?_
    rotate_left 1
    · intro w hSw; obtain ⟨h0, h1, h2, h3, h4, h5⟩ := hSw; go_simp <;> with_reducible rfl
    simp only [Act.put, List.setIfInBounds_toArray, List.set_cons_zero, List.set_cons_succ]
    refine Held.G_take (i := 2) (d := 29) (v := ?_) [2, 3, 7, 8, 9, 10, 11, 12, 13, 14, 15, 16, 17, 18, 19, 20, 21, 22, 23, 24, 25, 26, 27, 28, 29, 30, 31, 32, 33, 34, 35, 36, 37, 38, 39, 40, 41, 42, 43, 44, 45, 46] rfl rfl (by kernel_rfl) (by kernel_rfl) (by kernel_rfl) (by kernel_rfl) (fun _ _ _ h => h) (Or.inl ⟨by rfl, ?_⟩) hs0 ?_
    rotate_left 1
    · intro w hSw; clear hSw; go_simp <;> with_reducible rfl
    simp only [Act.put, List.setIfInBounds_toArray, List.set_cons_zero, List.set_cons_succ]
    refine Held.G_take (i := 4) (d := 31) (v := ?_) [4, 7, 8, 9, 10, 11, 12, 13, 14, 15, 16, 17, 18, 19, 20, 21, 22, 23, 24, 25, 26, 27, 28, 29, 30, 31, 32, 33, 34, 35, 36, 37, 38, 39, 40, 41, 42, 43, 44, 45, 46] rfl rfl (by kernel_rfl) (by kernel_rfl) (by kernel_rfl) (by kernel_rfl) (fun _ _ _ h => h) (Or.inl ⟨by rfl, ?_⟩) hs0 ?_
    rotate_left 1
    · intro w hSw; clear hSw; go_simp <;> with_reducible rfl
    simp only [Act.put, List.setIfInBounds_toArray, List.set_cons_zero, List.set_cons_succ]
    refine Held.G_take (i := 5) (d := 32) (v := ?_) [5, 7, 8, 9, 10, 11, 12, 13, 14, 15, 16, 17, 18, 19, 20, 21, 22, 23, 24, 25, 26, 27, 28, 29, 30, 31, 32, 33, 34, 35, 36, 37, 38, 39, 40, 41, 42, 43, 44, 45, 46] rfl rfl (by kernel_rfl) (by kernel_rfl) (by kernel_rfl) (by kernel_rfl) (fun _ _ _ h => h) (Or.inl ⟨by rfl, ?_⟩) hs0 ?_
    rotate_left 1
    · intro w hSw; obtain ⟨h0, h1, h2, h3, h4, h5⟩ := hSw; go_simp <;> with_reducible rfl
    simp only [Act.put, List.setIfInBounds_toArray, List.set_cons_zero, List.set_cons_succ]
    refine Held.G_take (i := 6) (d := 33) (v := ?_) [6, 7, 8, 9, 10, 11, 12, 13, 14, 15, 16, 17, 18, 19, 20, 21, 22, 23, 24, 25, 26, 27, 28, 29, 30, 31, 32, 33, 34, 35, 36, 37, 38, 39, 40, 41, 42, 43, 44, 45, 46] rfl rfl (by kernel_rfl) (by kernel_rfl) (by kernel_rfl) (by kernel_rfl) (fun _ _ _ h => h) (Or.inl ⟨by rfl, ?_⟩) hs0 ?_
    rotate_left 1
    · intro w hSw; clear hSw; go_simp <;> with_reducible rfl
    simp only [Act.put, List.setIfInBounds_toArray, List.set_cons_zero, List.set_cons_succ]
    refine Held.G_ready (rs := [3]) (by decide +kernel) (by simp) ?_
    refine Held.G_cons rfl (fun KK hK => ?_) Held.G_nil
    go_simp
    have hh := (HIS8.out.below hb0).find HML.out x z
    unfold FindPost at hh
    dsimp only [tc] at hh
    (with_reducible refine hh.mono ?_)
    clear hh
    rintro e y1 ⟨Fa, fc, fn, hfn, rfl, hfr, hbu⟩
    have hs1 := Bx.below hs0 hbu
    have hb1 := Below.step hb0 hbu
    have HFN := Lib.hid hfn
    clear hfn
    clear hs0 hb0 hbu
    go_simp
    refine hK _ _ ?_
    clear hK KK
    refine ⟨hs1, ?_⟩
    refine Held.G_ready (rs := [7]) (by decide +kernel) (by simp) ?_
    refine Held.G_cons rfl (fun KK hK => ?_) Held.G_nil
    go_simp
    have hh := rfind_any y1 Am nm cm m x z HNM.out (HRM.out.below hb1) (by have := HM80.out; have := HNM.out; omega)
    unfold FindPost at hh
    dsimp only [tc] at hh
    (with_reducible refine hh.mono ?_)
    clear hh
    rintro e y2 ⟨Ga, gc, gn, hgn, rfl, hgr, hbu⟩
    have hs2 := Bx.below hs1 hbu
    have hb2 := Below.step hb1 hbu
    replace hfr := hfr.below hbu
    have HGN := Lib.hid hgn
    clear hgn
    clear hs1 hb1 hbu
    go_simp
    refine hK _ _ ?_
    clear hK KK
    refine ⟨hs2, ?_⟩
    refine Held.G_ready (rs := [8]) (by decide +kernel) (by simp) ?_
    refine Held.G_cons rfl (fun KK hK => ?_) Held.G_nil
    go_simp
    have hh := rsame_t y2 Fa Ga fn fc gn gc _ _ true HFN.out HGN.out (rowT hfr) (rowT hgr) (by have := find_len m x z; have := HM80.out; omega) (by simp)
    (with_reducible refine hh.mono ?_)
    clear hh
    rintro e y3 ⟨rfl, hbu⟩
    have hs3 := Bx.below hs2 hbu
    have hb3 := Below.step hb2 hbu
    clear hfr hgr
    clear hs2 hb2 hbu
    go_simp
    refine hK _ _ ?_
    clear hK KK
    refine ⟨hs3, ?_⟩
    refine Held.G_take (i := 9) (d := 36) (v := ?_) [9, 10, 11, 12, 13, 14, 15, 16, 17, 18, 19, 20, 21, 22, 23, 24, 25, 26, 27, 28, 29, 30, 31, 32, 33, 34, 35, 36, 37, 38, 39, 40, 41, 42, 43, 44, 45, 46] rfl rfl (by kernel_rfl) (by kernel_rfl) (by kernel_rfl) (by kernel_rfl) (fun _ _ _ h => h) (Or.inl ⟨by rfl, ?_⟩) hs3 ?_
    rotate_left 1
    · intro w hSw; clear hSw; go_simp <;> with_reducible rfl
    simp only [Act.put, List.setIfInBounds_toArray, List.set_cons_zero, List.set_cons_succ]
    refine Held.G_take (i := 10) (d := 37) (v := ?_) [10, 17, 25, 26, 27, 28, 29, 30, 31, 32, 33, 34, 35, 36, 37, 38, 39, 40, 41, 42, 43, 44, 45, 46] rfl rfl (by kernel_rfl) (by kernel_rfl) (by kernel_rfl) (by kernel_rfl) (fun _ _ _ h => h) (Or.inl ⟨by rfl, ?_⟩) hs3 ?_
    rotate_left 1
    · intro w hSw; clear hSw; go_simp <;> with_reducible rfl
    simp only [Act.put, List.setIfInBounds_toArray, List.set_cons_zero, List.set_cons_succ]
    refine Held.G_take (i := 11) (d := 38) (v := ?_) [11, 12, 17, 25, 26, 27, 28, 29, 30, 31, 32, 33, 34, 35, 36, 37, 38, 39, 40, 41, 42, 43, 44, 45, 46] rfl rfl (by kernel_rfl) (by kernel_rfl) (by kernel_rfl) (by kernel_rfl) (fun _ _ _ h => h) (Or.inl ⟨by rfl, ?_⟩) hs3 ?_
    rotate_left 1
    · intro w hSw; clear hSw; go_simp <;> with_reducible rfl
    simp only [Act.put, List.setIfInBounds_toArray, List.set_cons_zero, List.set_cons_succ]
    refine Held.G_take (i := 12) (d := 39) (v := ?_) [12, 17, 25, 26, 27, 28, 29, 30, 31, 32, 33, 34, 35, 36, 37, 38, 39, 40, 41, 42, 43, 44, 45, 46] rfl rfl (by kernel_rfl) (by kernel_rfl) (by kernel_rfl) (by kernel_rfl) (fun _ _ _ h => h) (Or.inl ⟨by rfl, ?_⟩) hs3 ?_
    rotate_left 1
    · intro w hSw; obtain ⟨h0, h1, h2, h3, h4, h5⟩ := hSw; go_simp <;> with_reducible rfl
    simp only [Act.put, List.setIfInBounds_toArray, List.set_cons_zero, List.set_cons_succ]
    refine Held.G_take (i := 13) (d := 40) (v := ?_) [13, 14, 17, 25, 26, 27, 28, 29, 30, 31, 32, 33, 34, 35, 36, 37, 38, 39, 40, 41, 42, 43, 44, 45, 46] rfl rfl (by kernel_rfl) (by kernel_rfl) (by kernel_rfl) (by kernel_rfl) (fun _ _ _ h => h) (Or.inl ⟨by rfl, ?_⟩) hs3 ?_
    rotate_left 1
    · intro w hSw; clear hSw; go_simp <;> with_reducible rfl
    simp only [Act.put, List.setIfInBounds_toArray, List.set_cons_zero, List.set_cons_succ]
    refine Held.G_take (i := 14) (d := 41) (v := ?_) [14, 17, 25, 26, 27, 28, 29, 30, 31, 32, 33, 34, 35, 36, 37, 38, 39, 40, 41, 42, 43, 44, 45, 46] rfl rfl (by kernel_rfl) (by kernel_rfl) (by kernel_rfl) (by kernel_rfl) (fun _ _ _ h => h) (Or.inl ⟨by rfl, ?_⟩) hs3 ?_
    rotate_left 1
    · intro w hSw; obtain ⟨h0, h1, h2, h3, h4, h5⟩ := hSw; go_simp <;> with_reducible rfl
    simp only [Act.put, List.setIfInBounds_toArray, List.set_cons_zero, List.set_cons_succ]
    refine Held.G_take (i := 15) (d := 42) (v := ?_) [15, 16, 17, 25, 26, 27, 28, 29, 30, 31, 32, 33, 34, 35, 36, 37, 38, 39, 40, 41, 42, 43, 44, 45, 46] rfl rfl (by kernel_rfl) (by kernel_rfl) (by kernel_rfl) (by kernel_rfl) (fun _ _ _ h => h) (Or.inl ⟨by rfl, ?_⟩) hs3 ?_
    rotate_left 1
    · intro w hSw; clear hSw; go_simp <;> with_reducible rfl
    simp only [Act.put, List.setIfInBounds_toArray, List.set_cons_zero, List.set_cons_succ]
    refine Held.G_take (i := 16) (d := 43) (v := ?_) [16, 17, 25, 26, 27, 28, 29, 30, 31, 32, 33, 34, 35, 36, 37, 38, 39, 40, 41, 42, 43, 44, 45, 46] rfl rfl (by kernel_rfl) (by kernel_rfl) (by kernel_rfl) (by kernel_rfl) (fun _ _ _ h => h) (Or.inl ⟨by rfl, ?_⟩) hs3 ?_
    rotate_left 1
    · intro w hSw; obtain ⟨h0, h1, h2, h3, h4, h5⟩ := hSw; go_simp <;> with_reducible rfl
    simp only [Act.put, List.setIfInBounds_toArray, List.set_cons_zero, List.set_cons_succ]
    refine Held.G_take (i := 18) (d := 45) (v := ?_) [18, 25, 26, 27, 28, 29, 30, 31, 32, 33, 34, 35, 36, 37, 38, 39, 40, 41, 42, 43, 44, 45, 46] rfl rfl (by kernel_rfl) (by kernel_rfl) (by kernel_rfl) (by kernel_rfl) (fun _ _ _ h => h) (Or.inl ⟨by rfl, ?_⟩) hs3 ?_
    rotate_left 1
    · intro w hSw; clear hSw; go_simp <;> with_reducible rfl
    simp only [Act.put, List.setIfInBounds_toArray, List.set_cons_zero, List.set_cons_succ]
    refine Held.G_take (i := 19) (d := 46) (v := ?_) [19, 20, 25, 26, 27, 28, 29, 30, 31, 32, 33, 34, 35, 36, 37, 38, 39, 40, 41, 42, 43, 44, 45, 46] rfl rfl (by kernel_rfl) (by kernel_rfl) (by kernel_rfl) (by kernel_rfl) (fun _ _ _ h => h) (Or.inl ⟨by rfl, ?_⟩) hs3 ?_
    rotate_left 1
    · intro w hSw; clear hSw; go_simp <;> with_reducible rfl
    simp only [Act.put, List.setIfInBounds_toArray, List.set_cons_zero, List.set_cons_succ]
    refine Held.G_take (i := 20) (d := 47) (v := ?_) [20, 25, 26, 27, 28, 29, 30, 31, 32, 33, 34, 35, 36, 37, 38, 39, 40, 41, 42, 43, 44, 45, 46] rfl rfl (by kernel_rfl) (by kernel_rfl) (by kernel_rfl) (by kernel_rfl) (fun _ _ _ h => h) (Or.inl ⟨by rfl, ?_⟩) hs3 ?_
    rotate_left 1
    · intro w hSw; obtain ⟨h0, h1, h2, h3, h4, h5⟩ := hSw; go_simp <;> with_reducible rfl
    simp only [Act.put, List.setIfInBounds_toArray, List.set_cons_zero, List.set_cons_succ]
    refine Held.G_take (i := 21) (d := 48) (v := ?_) [21, 22, 25, 26, 27, 28, 29, 30, 31, 32, 33, 34, 35, 36, 37, 38, 39, 40, 41, 42, 43, 44, 45, 46] rfl rfl (by kernel_rfl) (by kernel_rfl) (by kernel_rfl) (by kernel_rfl) (fun _ _ _ h => h) (Or.inl ⟨by rfl, ?_⟩) hs3 ?_
    rotate_left 1
    · intro w hSw; clear hSw; go_simp <;> with_reducible rfl
    simp only [Act.put, List.setIfInBounds_toArray, List.set_cons_zero, List.set_cons_succ]
    refine Held.G_take (i := 22) (d := 49) (v := ?_) [22, 25, 26, 27, 28, 29, 30, 31, 32, 33, 34, 35, 36, 37, 38, 39, 40, 41, 42, 43, 44, 45, 46] rfl rfl (by kernel_rfl) (by kernel_rfl) (by kernel_rfl) (by kernel_rfl) (fun _ _ _ h => h) (Or.inl ⟨by rfl, ?_⟩) hs3 ?_
    rotate_left 1
    · intro w hSw; obtain ⟨h0, h1, h2, h3, h4, h5⟩ := hSw; go_simp <;> with_reducible rfl
    simp only [Act.put, List.setIfInBounds_toArray, List.set_cons_zero, List.set_cons_succ]
    refine Held.G_take (i := 23) (d := 50) (v := ?_) [23, 24, 25, 26, 27, 28, 29, 30, 31, 32, 33, 34, 35, 36, 37, 38, 39, 40, 41, 42, 43, 44, 45, 46] rfl rfl (by kernel_rfl) (by kernel_rfl) (by kernel_rfl) (by kernel_rfl) (fun _ _ _ h => h) (Or.inl ⟨by rfl, ?_⟩) hs3 ?_
    rotate_left 1
    · intro w hSw; clear hSw; go_simp <;> with_reducible rfl
    simp only [Act.put, List.setIfInBounds_toArray, List.set_cons_zero, List.set_cons_succ]
    refine Held.G_take (i := 24) (d := 51) (v := ?_) [24, 25, 26, 27, 28, 29, 30, 31, 32, 33, 34, 35, 36, 37, 38, 39, 40, 41, 42, 43, 44, 45, 46] rfl rfl (by kernel_rfl) (by kernel_rfl) (by kernel_rfl) (by kernel_rfl) (fun _ _ _ h => h) (Or.inl ⟨by rfl, ?_⟩) hs3 ?_
    rotate_left 1
    · intro w hSw; obtain ⟨h0, h1, h2, h3, h4, h5⟩ := hSw; go_simp <;> with_reducible rfl
    simp only [Act.put, List.setIfInBounds_toArray, List.set_cons_zero, List.set_cons_succ]
    refine Held.G_ready (rs := [17]) (by decide +kernel) (by simp) ?_
    refine Held.G_cons rfl (fun KK hK => ?_) Held.G_nil
    go_simp
    have hh := (HIS8.out.below hb3).users HML.out ⟨x.k, x.i, x.r⟩ HUX.out
    unfold UsersPost at hh
    dsimp only [tc] at hh
    (with_reducible refine hh.mono ?_)
    clear hh
    rintro e y4 ⟨Fa, fc, fn, hfn, rfl, hfr, hbu⟩
    have hs4 := Bx.below hs3 hbu
    have hb4 := Below.step hb3 hbu
    have HFN := Lib.hid hfn
    clear hfn
    clear hs3 hb3 hbu
    go_simp
    refine hK _ _ ?_
    clear hK KK
    refine ⟨hs4, ?_⟩
    refine Held.G_ready (rs := [25]) (by decide +kernel) (by simp) ?_
    refine Held.G_cons rfl (fun KK hK => ?_) Held.G_nil
    go_simp
    have hh := rusers_any y4 Am nm cm m x.k x.i x.r HNM.out (HRM.out.below hb4) (by have := HM80.out; have := HNM.out; omega)
    unfold UsersPost at hh
    (with_reducible refine hh.mono ?_)
    clear hh
    rintro e y5 ⟨Ga, gc, gn, hgn, rfl, hgr, hbu⟩
    have hs5 := Bx.below hs4 hbu
    have hb5 := Below.step hb4 hbu
    replace hfr := FactsRefS.URow.below hfr hbu
    have HGN := Lib.hid hgn
    clear hgn
    clear hs4 hb4 hbu
    go_simp
    refine hK _ _ ?_
    clear hK KK
    refine ⟨hs5, ?_⟩
    refine Held.G_ready (rs := [26]) (by decide +kernel) (by simp) ?_
    refine Held.G_cons rfl (fun KK hK => ?_) Held.G_nil
    go_simp
    have hh := rsame_u y5 Fa Ga fn fc gn gc _ _ true HFN.out HGN.out (rowU hfr) (rowU hgr) (by have := users_len m x.k x.i x.r; have := HM80.out; omega) (by simp)
    (with_reducible refine hh.mono ?_)
    clear hh
    rintro e y6 ⟨rfl, hbu⟩
    have hs6 := Bx.below hs5 hbu
    have hb6 := Below.step hb5 hbu
    clear hfr hgr
    clear hs5 hb5 hbu
    go_simp
    refine hK _ _ ?_
    clear hK KK
    refine ⟨hs6, ?_⟩
    refine Held.G_take (i := 27) (d := 54) (v := ?_) [27, 28, 29, 30, 31, 32, 33, 34, 35, 36, 37, 38, 39, 40, 41, 42, 43, 44, 45, 46] rfl rfl (by kernel_rfl) (by kernel_rfl) (by kernel_rfl) (by kernel_rfl) (fun _ _ _ h => h) (Or.inl ⟨by rfl, ?_⟩) hs6 ?_
    rotate_left 1
    · intro w hSw; clear hSw; go_simp <;> with_reducible rfl
    simp only [Act.put, List.setIfInBounds_toArray, List.set_cons_zero, List.set_cons_succ]
    refine Held.G_take (i := 28) (d := 55) (v := ?_) [28, 29, 30, 31, 32, 33, 34, 35, 36, 37, 38, 39, 40, 41, 42, 43, 44, 45, 46] rfl rfl (by kernel_rfl) (by kernel_rfl) (by kernel_rfl) (by kernel_rfl) (fun _ _ _ h => h) (Or.inl ⟨by rfl, ?_⟩) hs6 ?_
    rotate_left 1
    · intro w hSw; clear hSw; go_simp <;> with_reducible rfl
    simp only [Act.put, List.setIfInBounds_toArray, List.set_cons_zero, List.set_cons_succ]
    refine Held.G_take (i := 29) (d := 56) (v := ?_) [29, 32, 36, 37, 38, 39, 40, 41, 42, 43, 44, 45, 46] rfl rfl (by kernel_rfl) (by kernel_rfl) (by kernel_rfl) (by kernel_rfl) (fun _ _ _ h => h) (Or.inl ⟨by rfl, ?_⟩) hs6 ?_
    rotate_left 1
    · intro w hSw; clear hSw; go_simp <;> with_reducible rfl
    simp only [Act.put, List.setIfInBounds_toArray, List.set_cons_zero, List.set_cons_succ]
    refine Held.G_take (i := 30) (d := 57) (v := ?_) [30, 31, 32, 36, 37, 38, 39, 40, 41, 42, 43, 44, 45, 46] rfl rfl (by kernel_rfl) (by kernel_rfl) (by kernel_rfl) (by kernel_rfl) (fun _ _ _ h => h) (Or.inl ⟨by rfl, ?_⟩) hs6 ?_
    rotate_left 1
    · intro w hSw; clear hSw; go_simp <;> with_reducible rfl
    simp only [Act.put, List.setIfInBounds_toArray, List.set_cons_zero, List.set_cons_succ]
    refine Held.G_take (i := 31) (d := 58) (v := ?_) [31, 32, 36, 37, 38, 39, 40, 41, 42, 43, 44, 45, 46] rfl rfl (by kernel_rfl) (by kernel_rfl) (by kernel_rfl) (by kernel_rfl) (fun _ _ _ h => h) (Or.inl ⟨by rfl, ?_⟩) hs6 ?_
    rotate_left 1
    · intro w hSw; obtain ⟨h0, h1, h2, h3, h4, h5⟩ := hSw; go_simp <;> with_reducible rfl
    simp only [Act.put, List.setIfInBounds_toArray, List.set_cons_zero, List.set_cons_succ]
    refine Held.G_take (i := 33) (d := 60) (v := ?_) [33, 36, 37, 38, 39, 40, 41, 42, 43, 44, 45, 46] rfl rfl (by kernel_rfl) (by kernel_rfl) (by kernel_rfl) (by kernel_rfl) (fun _ _ _ h => h) (Or.inl ⟨by rfl, ?_⟩) hs6 ?_
    rotate_left 1
    · intro w hSw; clear hSw; go_simp <;> with_reducible rfl
    simp only [Act.put, List.setIfInBounds_toArray, List.set_cons_zero, List.set_cons_succ]
    refine Held.G_take (i := 34) (d := 61) (v := ?_) [34, 35, 36, 37, 38, 39, 40, 41, 42, 43, 44, 45, 46] rfl rfl (by kernel_rfl) (by kernel_rfl) (by kernel_rfl) (by kernel_rfl) (fun _ _ _ h => h) (Or.inl ⟨by rfl, ?_⟩) hs6 ?_
    rotate_left 1
    · intro w hSw; clear hSw; go_simp <;> with_reducible rfl
    simp only [Act.put, List.setIfInBounds_toArray, List.set_cons_zero, List.set_cons_succ]
    refine Held.G_take (i := 35) (d := 62) (v := ?_) [35, 36, 37, 38, 39, 40, 41, 42, 43, 44, 45, 46] rfl rfl (by kernel_rfl) (by kernel_rfl) (by kernel_rfl) (by kernel_rfl) (fun _ _ _ h => h) (Or.inl ⟨by rfl, ?_⟩) hs6 ?_
    rotate_left 1
    · intro w hSw; obtain ⟨h0, h1, h2, h3, h4, h5⟩ := hSw; go_simp <;> with_reducible rfl
    simp only [Act.put, List.setIfInBounds_toArray, List.set_cons_zero, List.set_cons_succ]
    refine Held.G_ready (rs := [32]) (by decide +kernel) (by simp) ?_
    refine Held.G_cons rfl (fun KK hK => ?_) Held.G_nil
    go_simp
    have hh := (HIS8.out.below hb6).objects HML.out x.k
    unfold ObjectsPost at hh
    (with_reducible refine hh.mono ?_)
    clear hh
    rintro e y7 ⟨Fa, fc, fn, hfn, rfl, hfr, hbu⟩
    have hs7 := Bx.below hs6 hbu
    have hb7 := Below.step hb6 hbu
    have HFN := Lib.hid hfn
    clear hfn
    clear hs6 hb6 hbu
    go_simp
    refine hK _ _ ?_
    clear hK KK
    refine ⟨hs7, ?_⟩
    refine Held.G_ready (rs := [36]) (by decide +kernel) (by simp) ?_
    refine Held.G_cons rfl (fun KK hK => ?_) Held.G_nil
    go_simp
    have hh := robjects_any y7 Am nm cm m x.k HNM.out (HRM.out.below hb7) (by have := HM80.out; have := HNM.out; omega) HSI.out
    unfold ObjectsPost at hh
    (with_reducible refine hh.mono ?_)
    clear hh
    rintro e y8 ⟨Ga, gc, gn, hgn, rfl, hgr, hbu⟩
    have hs8 := Bx.below hs7 hbu
    have hb8 := Below.step hb7 hbu
    replace hfr := hfr.below hbu
    have HGN := Lib.hid hgn
    clear hgn
    clear hs7 hb7 hbu
    go_simp
    refine hK _ _ ?_
    clear hK KK
    refine ⟨hs8, ?_⟩
    refine Held.G_ready (rs := [37]) (by decide +kernel) (by simp) ?_
    refine Held.G_cons rfl (fun KK hK => ?_) Held.G_nil
    go_simp
    have hh := rsame_s y8 Fa Ga fn fc gn gc _ _ true HFN.out HGN.out hfr hgr (by have := objects_len m x.k; have := HM80.out; omega) (by simp)
    (with_reducible refine hh.mono ?_)
    clear hh
    rintro e y9 ⟨rfl, hbu⟩
    have hs9 := Bx.below hs8 hbu
    have hb9 := Below.step hb8 hbu
    clear hfr hgr
    clear hs8 hb8 hbu
    go_simp
    refine hK _ _ ?_
    clear hK KK
    refine ⟨hs9, ?_⟩
    refine Held.G_take (i := 38) (d := 65) (v := ?_) [38, 39, 40, 41, 42, 43, 44, 45, 46] rfl rfl (by kernel_rfl) (by kernel_rfl) (by kernel_rfl) (by kernel_rfl) (fun _ _ _ h => h) (Or.inl ⟨by rfl, ?_⟩) hs9 ?_
    rotate_left 1
    · intro w hSw; clear hSw; go_simp <;> with_reducible rfl
    simp only [Act.put, List.setIfInBounds_toArray, List.set_cons_zero, List.set_cons_succ]
    refine Held.G_take (i := 39) (d := 66) (v := ?_) [39, 40, 41, 42, 43, 44, 45, 46] rfl rfl (by kernel_rfl) (by kernel_rfl) (by kernel_rfl) (by kernel_rfl) (fun _ _ _ h => h) (Or.inl ⟨by rfl, ?_⟩) hs9 ?_
    rotate_left 1
    · intro w hSw; clear hSw; go_simp <;> with_reducible rfl
    simp only [Act.put, List.setIfInBounds_toArray, List.set_cons_zero, List.set_cons_succ]
    refine Held.G_take (i := 40) (d := 67) (v := ?_) [40, 41, 43, 44, 45, 46] rfl rfl (by kernel_rfl) (by kernel_rfl) (by kernel_rfl) (by kernel_rfl) (fun _ _ _ h => h) (Or.inl ⟨by rfl, ?_⟩) hs9 ?_
    rotate_left 1
    · intro w hSw; clear hSw; go_simp <;> with_reducible rfl
    simp only [Act.put, List.setIfInBounds_toArray, List.set_cons_zero, List.set_cons_succ]
    refine Held.G_take (i := 42) (d := 69) (v := ?_) [42, 43, 44, 45, 46] rfl rfl (by kernel_rfl) (by kernel_rfl) (by kernel_rfl) (by kernel_rfl) (fun _ _ _ h => h) (Or.inl ⟨by rfl, ?_⟩) hs9 ?_
    rotate_left 1
    · intro w hSw; clear hSw; go_simp <;> with_reducible rfl
    simp only [Act.put, List.setIfInBounds_toArray, List.set_cons_zero, List.set_cons_succ]
    refine Held.G_ready (rs := [41]) (by decide +kernel) (by simp) ?_
    refine Held.G_cons rfl (fun KK hK => ?_) Held.G_nil
    go_simp
    have hh := (HIS8.out.below hb9).people HML.out
    unfold UsersPost at hh
    (with_reducible refine hh.mono ?_)
    clear hh
    rintro e y10 ⟨Fa, fc, fn, hfn, rfl, hfr, hbu⟩
    have hs10 := Bx.below hs9 hbu
    have hb10 := Below.step hb9 hbu
    have HFN := Lib.hid hfn
    clear hfn
    clear hs9 hb9 hbu
    go_simp
    refine hK _ _ ?_
    clear hK KK
    refine ⟨hs10, ?_⟩
    refine Held.G_ready (rs := [43]) (by decide +kernel) (by simp) ?_
    refine Held.G_cons rfl (fun KK hK => ?_) Held.G_nil
    go_simp
    have hh := rpeople_any y10 Am nm cm m HNM.out (HRM.out.below hb10) (by have := HM80.out; have := HNM.out; omega) HUU.out
    unfold UsersPost at hh
    (with_reducible refine hh.mono ?_)
    clear hh
    rintro e y11 ⟨Ga, gc, gn, hgn, rfl, hgr, hbu⟩
    have hs11 := Bx.below hs10 hbu
    have hb11 := Below.step hb10 hbu
    replace hfr := FactsRefS.URow.below hfr hbu
    have HGN := Lib.hid hgn
    clear hgn
    clear hs10 hb10 hbu
    go_simp
    refine hK _ _ ?_
    clear hK KK
    refine ⟨hs11, ?_⟩
    refine Held.G_ready (rs := [44]) (by decide +kernel) (by simp) ?_
    refine Held.G_cons rfl (fun KK hK => ?_) Held.G_nil
    go_simp
    have hh := rsame_u y11 Fa Ga fn fc gn gc _ _ true HFN.out HGN.out (rowU hfr) (rowU hgr) (by have := people_len m; have := HM80.out; omega) (by simp)
    (with_reducible refine hh.mono ?_)
    clear hh
    rintro e y12 ⟨rfl, hbu⟩
    have hs12 := Bx.below hs11 hbu
    have hb12 := Below.step hb11 hbu
    clear hfr hgr
    clear hs11 hb11 hbu
    go_simp
    refine hK _ _ ?_
    clear hK KK
    refine ⟨hs12, ?_⟩
    refine Held.G_take (i := 45) (d := 72) (v := ?_) [45, 46] rfl rfl (by kernel_rfl) (by kernel_rfl) (by kernel_rfl) (by kernel_rfl) (fun _ _ _ h => h) (Or.inl ⟨by rfl, ?_⟩) hs12 ?_
    rotate_left 1
    · intro w hSw; clear hSw; go_simp <;> with_reducible rfl
    simp only [Act.put, List.setIfInBounds_toArray, List.set_cons_zero, List.set_cons_succ]
    refine Held.G_ready (rs := [46]) (by decide +kernel) (by simp) ?_
    refine Held.G_last rfl (fun KK hK => ?_) Held.G_nil
    go_simp
    refine hK _ _ ?_
    clear hK KK
    refine Held.G_done (by kernel_rfl) ?_ _
    have HF := Lib.hid (HBw8.out.trans (hb12.mono HBw8.out.size))
    clear hb12 hs12
    go_wp2_with fail
    go_ret
    exact ⟨rfl, HF.out⟩
end Go.Proofs.YtilcnhdfdgmekaaGreat.FactsFindL
