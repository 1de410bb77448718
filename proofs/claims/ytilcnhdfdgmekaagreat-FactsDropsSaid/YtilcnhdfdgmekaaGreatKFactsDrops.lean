/- The walk of FactsDrops. -/
import Derived.Test.YtilcnhdfdgmekaaGreatKFactsLawP
namespace Go.Proofs.YtilcnhdfdgmekaaGreat.FactsDrops
open Go.RowKit Base KeyPlain TuplePlain TupleRef TupleSpec TupleCut FMap FactsPlain FactsMem FactsHas FactsPut FactsDrop FactsNew FactsFind FactsLess FactsObj FactsUsersOf FactsNames FactsOrder FactsRefS FactsFew FactsIs FactsAwake TurnB RowN FactsLawP

set_option maxRecDepth 100000 in
set_option maxHeartbeats 25600000 in
theorem drops_any (A : Option Addr) (c : Nat) (l : List Tp) (t s : Tp) (W : World) (hr : TRow W A l) (hT : ∀ t ∈ l, TpF t) (hz : l.length * 96 ≤ reachBytes) (ht : TpF t) (hs : TpF s) :
    Calls Tryz.prog 8 #[.slice A l.length c, .agg (tc t), .agg (tc s)] W (Law W) := by
  have HR := Lib.hid hr
  have HTF := Lib.hid hT
  have HZ := Lib.hid hz
  obtain ⟨n, hn⟩ : ∃ v, v = l.length := ⟨_, rfl⟩
  rw [← hn] at hz ⊢
  have HZ := Lib.hid (show n * 96 ≤ 140737488355328 by unfold reachBytes at hz; omega)
  have HNL := Lib.hid hn
  obtain ⟨m, hm⟩ : ∃ v, new l = v := ⟨_, rfl⟩
  have HM := Lib.hid hm
  have HMU := Lib.hid (show Up ltT m by rw [← hm]; exact new_up l)
  have HML := Lib.hid (show m.length * 96 ≤ 140737488355328 by have := new_len l; rw [hm] at this; unfold reachBytes at hz; omega)
  clear hr hT hz hn hm
  obtain ⟨w1, hw1⟩ : ∃ v, v = W.alloc (.cells (tc t) 32) := ⟨_, rfl⟩
  obtain ⟨b4, hb4⟩ : ∃ v, v = W.heap.size := ⟨_, rfl⟩
  obtain ⟨w2, hw2⟩ : ∃ v, v = w1.alloc (.cells (tc s) 32) := ⟨_, rfl⟩
  obtain ⟨b5, hb5⟩ : ∃ v, v = b4 + 1 := ⟨_, rfl⟩
  have bl1 : Below W.heap.size W w1 := by rw [hw1]; exact al _ _
  have bl2 : Below w1.heap.size w1 w2 := by rw [hw2]; exact al _ _
  have s1 : w1.heap.size = b5 := by rw [hw1, hb5, hb4]; simp
  have a4 : w1.heap[b4]? = some (.cells (tc t) 32 (0, 0)) := by rw [hw1, hb4]; exact heap_alloc_new W _
  have a5 : w2.heap[b5]? = some (.cells (tc s) 32 (0, 0)) := by rw [hw2, ← s1]; exact heap_alloc_new w1 _
  have a4' := (bl2.block b4 (heap_lt a4)).trans a4
  have HC := Lib.hid (fun (w' : World) (hw' : Below w2.heap.size w2 w') => And.intro (six_at ((hw'.block b4 (heap_lt a4')).trans a4')) (six_at ((hw'.block b5 (heap_lt a5)).trans a5)))
  have HBw2 := Lib.hid (Below.step bl1 bl2)
  unfold tc at hw1 hw2 ⊢
  have HW1 := Lib.hid hw1
  have HW2 := Lib.hid hw2
  have HB4 := Lib.hid hb4
  have HB5 := Lib.hid hb5
  have HS1 := Lib.hid s1
  clear hw1 hb4 hw2 hb5 bl1 bl2 s1 a4 a5 a4'
  have HTT := Lib.hid (And.intro ht hs)
  clear ht hs
  go_enter Tryz.func8, Tryz.ntmps8
  go_upto_region 1 with fail
  rw [← HW1.out, ← HB4.out, ← HB5.out, ← HW2.out]
  clear HW1 HW2 HB4 HB5 HS1
  obtain ⟨A1, c1, w3, hrun, hr1, hb1⟩ := run_copy (c := c) HNL.out (HR.out.below HBw2.out) HZ.out 22
  have HNEW := Lib.hid (is_new (n := n) (c := c1) l HNL.out (by have := HZ.out; omega) hr1 HTF.out)
  have HBM := Lib.hid (HBw2.out.trans (hb1.mono HBw2.out.size))
  have HSM := Lib.hid hb1
  clear hr1 hb1
  go_wp2_with (at_builtin; first | refine wpList_append_run rfl (.tmp 13) (.tmp 14) 22 22 rfl rfl rfl hrun ?_)
  clear hrun
  (with_reducible refine HNEW.out.mono ?_)
  rintro e w4 hq
  unfold MadePost at hq
  obtain ⟨fb, rfl, his, hbn⟩ := hq
  rw [HM.out] at his
  have HIS := Lib.hid his
  have HBw4 := Lib.hid (HBM.out.trans (hbn.mono HBM.out.size))
  have HSw4 := Lib.hid (HSM.out.trans (hbn.mono HSM.out.size))
  have HLO := Lib.hid (show w3.heap.size ≤ w4.heap.size ∧ W.heap.size ≤ w3.heap.size from ⟨hbn.size, HBM.out.size⟩)
  obtain ⟨lo, hlo⟩ : ∃ v, v = w3.heap.size := ⟨_, rfl⟩
  rw [← hlo] at HIS HLO
  clear his hbn HNEW HBM HSM hlo
  have HCC := Lib.hid (fun (wx : World) (hk : Below w4.heap.size w4 wx) => show Bx wx b4 t ∧ Bx wx b5 s from ⟨Bx.below (HC.out _ HSw4.out).1 hk, Bx.below (HC.out _ HSw4.out).2 hk⟩)
  clear HC
  go_wp2_with fail
  (with_reducible refine (awake_any _).mono ?_)
  rintro e w5 ⟨rfl, hb⟩
  have HBw5 := Lib.hid (HBw4.out.trans (hb.mono HBw4.out.size))
  have hk5 : Below w4.heap.size w4 w5 := hb
  clear hb
  have hfew := few_any w5 A n c l HNL.out (rowT (HR.out.below HBw5.out)) (by have := HZ.out; omega)
  go_wp2_with fail
  (with_reducible refine hfew.mono ?_)
  clear hfew
  rintro e w6 ⟨rfl, hb⟩
  have HBw6 := Lib.hid (HBw5.out.trans (hb.mono HBw5.out.size))
  cases hf : fewB l with
  | false =>
    clear hb hf
    go_wp2_with fail
    (with_reducible refine (awake_any _).mono ?_)
    rintro e wz ⟨rfl, hbz⟩
    have HBZ := Lib.hid (HBw6.out.trans (hbz.mono HBw6.out.size))
    clear hbz
    go_wp2_with fail
    go_ret
    exact ⟨rfl, HBZ.out⟩
  | true =>
    have hk6 : Below w4.heap.size w4 w6 := Below.step hk5 hb
    clear hb hk5
    have HFT := Lib.hid (few_len hf)
    clear hf
    obtain ⟨⟨h0, h1, h2, h3, h4, h5⟩, ⟨i0, i1, i2, i3, i4, i5⟩⟩ := HCC.out _ hk6
    have hf2 := few_any (w6.alloc (.cells #[.string t.k, .string t.i, .string t.r, .string t.u.k, .string t.u.i, .string t.u.r, .string s.k, .string s.i, .string s.r, .string s.u.k, .string s.u.i, .string s.u.r] 32)) (some ⟨w6.heap.size, 0, none⟩) 2 2 [t, s] rfl (row_two (heap_alloc_new w6 _)) (by decide)
    go_wp2_with fail
    clear h0 h1 h2 h3 h4 h5 i0 i1 i2 i3 i4 i5
    (with_reducible refine hf2.mono ?_)
    clear hf2
    rintro e w7 ⟨rfl, hb⟩
    have hb67 : Below w6.heap.size w6 w7 := Below.step (al _ _) hb
    have HBw7 := Lib.hid (HBw6.out.trans (hb67.mono HBw6.out.size))
    have hk7 : Below w4.heap.size w4 w7 := Below.step hk6 hb67
    clear hb hb67 hk6
    cases hf2 : fewB [t, s] with
    | false =>
      clear hk7 hf2
      go_wp2_with fail
      (with_reducible refine (awake_any _).mono ?_)
      rintro e wz ⟨rfl, hbz⟩
      have HBZ := Lib.hid (HBw7.out.trans (hbz.mono HBw7.out.size))
      clear hbz
      go_wp2_with fail
      go_ret
      exact ⟨rfl, HBZ.out⟩
    | true =>
      clear hf2
      have HCC2 := Lib.hid (fun (wx : World) (hk : Wn lo w7 wx) => show Bx wx b4 t ∧ Bx wx b5 s from ⟨(HCC.out _ hk7).1.wn hk, (HCC.out _ hk7).2.wn hk⟩)
      have HIS7 := Lib.hid (HIS.out.below hk7)
      have HLO7 := Lib.hid (show lo ≤ w7.heap.size ∧ W.heap.size ≤ lo from ⟨(HIS.out.below hk7).low, HLO.out.2⟩)
      clear hk7 HCC HIS HLO
      obtain ⟨was, hwas⟩ : ∃ v, v = decide (s ∈ m) := ⟨_, rfl⟩
      obtain ⟨had, hhad⟩ : ∃ v, v = decide (t ∈ m) := ⟨_, rfl⟩
      obtain ⟨put, hput⟩ : ∃ v, v = (t.ok && decide (t ∉ m)) := ⟨_, rfl⟩
      obtain ⟨tr, htr⟩ : ∃ v, v = decide (t ∈ putT m t) := ⟨_, rfl⟩
      have P1 : tr = (had || put) := by
        rw [htr, hhad, hput, Bool.eq_iff_iff]
        simp only [decide_eq_true_eq, Bool.or_eq_true, Bool.and_eq_true, put_self]
        by_cases hm : t ∈ m <;> simp [hm]
      have P2 : (had && put) = false := by
        rw [hhad, hput]
        by_cases hm : t ∈ m <;> simp [hm]
      have P3 : s ≠ t → decide (s ∈ putT m t) = was := fun hne => by rw [hwas, decide_eq_decide]; exact put_other hne
      have P4 : decide (t ∈ drop (putT m t) t) = false := by simp [drop_mem]
      have P5 : s ≠ t → decide (s ∈ drop (putT m t) t) = was := fun hne => by rw [hwas, decide_eq_decide, drop_mem]; exact ⟨fun h => (put_other hne).1 h.1, fun h => ⟨(put_other hne).2 h, hne⟩⟩
      have P6 : (drop (putT m t) t).length + (if had then 1 else 0) = m.length := by
        rw [drop_put HMU.out, ← drop_len (up_nodup ordT HMU.out) t, hhad]
        simp
      have P7 : (drop (putT m t) t).length * 96 ≤ 140737488355328 := by have := HML.out; have := P6; split at this <;> omega
      have hlen : m.length ≤ 80 := by have := HFT.out; have := new_len l; rw [HM.out] at this; omega
      obtain ⟨m1, hm1⟩ : ∃ v, v = putT m t := ⟨_, rfl⟩
      obtain ⟨m2, hm2⟩ : ∃ v, v = drop m1 t := ⟨_, rfl⟩
      rw [← hm1] at htr P3 P4 P5 P6 P7
      rw [← hm2] at P4 P5 P6 P7
      have C1 := Lib.hid (fun (w : World) (h : Is lo w fb m) => h.has s HTT.out.2)
      have C2 := Lib.hid (fun (w : World) (h : Is lo w fb m) => h.all HML.out)
      have C3 := Lib.hid (fun (w : World) (h : Is lo w fb m) => h.has t HTT.out.1)
      have C4 := Lib.hid (fun (w : World) (h : Is lo w fb m) => h.put t HTT.out.1)
      have C5 := Lib.hid (fun (w : World) (h : Is lo w fb m1) => h.has t HTT.out.1)
      have C6 := Lib.hid (fun (w : World) (h : Is lo w fb m1) => h.has s HTT.out.2)
      have C7 := Lib.hid (fun (w : World) (h : Is lo w fb m1) => h.drop t HTT.out.1)
      have C8 := Lib.hid (fun (w : World) (h : Is lo w fb m2) => h.has t HTT.out.1)
      have C9 := Lib.hid (fun (w : World) (h : Is lo w fb m2) => h.all P7)
      have C10 := Lib.hid (fun (w : World) (h : Is lo w fb m2) => h.has s HTT.out.2)
      have HNE := Lib.hid (fun w => tp_ne t s w)
      have HEQ := Lib.hid (fun w => TupleEq.tp_eq t s w)
      rw [← hwas] at C1
      rw [← hhad] at C3
      rw [← hput, ← hm1] at C4
      rw [← htr] at C5 C7
      rw [← hm2] at C7
      rw [P4] at C8
      unfold tc at C1 C3 C4 C5 C6 C7 C8 C10 HNE HEQ
      have HP6 := Lib.hid P6
      have HP3 := Lib.hid P3
      have HP5 := Lib.hid P5
      have HLEN := Lib.hid hlen
      clear hwas hhad hput htr P3 P4 P5 P6 P7 hm1 hm2 hlen
      subst P1
      by_cases he : t = s
      · skip
        cases had with
        | false =>
          cases put with
          | false =>
            clear P2
            have his7 := HIS7.out
            have hk7 : Wn lo w7 w7 := Wn.refl _ _
            have hneq := HNE.out
            have heqq := HEQ.out
            rw [show decide (t = s) = true from decide_eq_true he] at hneq heqq
            simp only [Bool.not_true] at hneq
            clear he
            obtain ⟨⟨h0, h1, h2, h3, h4, h5⟩, ⟨i0, i1, i2, i3, i4, i5⟩⟩ := HCC2.out _ hk7
            have hcall := C1.out _ his7
            go_wp2_with fail
            clear h0 h1 h2 h3 h4 h5 i0 i1 i2 i3 i4 i5
            (with_reducible refine hcall.mono ?_)
            clear hcall
            rintro e w8 ⟨rfl, hb⟩
            have his8 := his7.below hb
            have hk8 := hk7.trans (Wn.ofBelow hb)
            clear hb hk7 his7
            obtain ⟨⟨h0, h1, h2, h3, h4, h5⟩, ⟨i0, i1, i2, i3, i4, i5⟩⟩ := HCC2.out _ hk8
            have hcall := C2.out _ his8
            go_wp2_with fail
            clear h0 h1 h2 h3 h4 h5 i0 i1 i2 i3 i4 i5
            (with_reducible refine hcall.mono ?_)
            clear hcall
            rintro e w9 hq
            unfold AllPost at hq
            obtain ⟨A2, c2, n2, hn2, rfl, _, _, _, hb⟩ := hq
            have HN2 := Lib.hid hn2
            clear hn2
            have his9 := his8.below hb
            have hk9 := hk8.trans (Wn.ofBelow hb)
            clear hb hk8 his8
            obtain ⟨⟨h0, h1, h2, h3, h4, h5⟩, ⟨i0, i1, i2, i3, i4, i5⟩⟩ := HCC2.out _ hk9
            have hcall := C3.out _ his9
            go_wp2_with fail
            clear h0 h1 h2 h3 h4 h5 i0 i1 i2 i3 i4 i5
            (with_reducible refine hcall.mono ?_)
            clear hcall
            rintro e w10 ⟨rfl, hb⟩
            have his10 := his9.below hb
            have hk10 := hk9.trans (Wn.ofBelow hb)
            clear hb hk9 his9
            obtain ⟨⟨h0, h1, h2, h3, h4, h5⟩, ⟨i0, i1, i2, i3, i4, i5⟩⟩ := HCC2.out _ hk10
            have hcall := C4.out _ his10
            go_wp2_with fail
            clear h0 h1 h2 h3 h4 h5 i0 i1 i2 i3 i4 i5
            (with_reducible refine hcall.mono ?_)
            clear hcall
            rintro e w11 ⟨rfl, hi, hwn⟩
            have his11 := hi
            have hk11 := hk10.trans hwn
            clear hi hwn hk10 his10
            obtain ⟨⟨h0, h1, h2, h3, h4, h5⟩, ⟨i0, i1, i2, i3, i4, i5⟩⟩ := HCC2.out _ hk11
            have hcall := C5.out _ his11
            go_wp2_with fail
            clear h0 h1 h2 h3 h4 h5 i0 i1 i2 i3 i4 i5
            (with_reducible refine hcall.mono ?_)
            clear hcall
            rintro e w12 ⟨rfl, hb⟩
            have his12 := his11.below hb
            have hk12 := hk11.trans (Wn.ofBelow hb)
            clear hb hk11 his11
            obtain ⟨⟨h0, h1, h2, h3, h4, h5⟩, ⟨i0, i1, i2, i3, i4, i5⟩⟩ := HCC2.out _ hk12
            have hcall := C7.out _ his12
            go_wp2_with fail
            clear h0 h1 h2 h3 h4 h5 i0 i1 i2 i3 i4 i5
            (with_reducible refine hcall.mono ?_)
            clear hcall
            rintro e w13 ⟨rfl, hi, hwn⟩
            have his13 := hi
            have hk13 := hk12.trans hwn
            clear hi hwn hk12 his12
            obtain ⟨⟨h0, h1, h2, h3, h4, h5⟩, ⟨i0, i1, i2, i3, i4, i5⟩⟩ := HCC2.out _ hk13
            have hcall := C8.out _ his13
            go_wp2_with fail
            clear h0 h1 h2 h3 h4 h5 i0 i1 i2 i3 i4 i5
            (with_reducible refine hcall.mono ?_)
            clear hcall
            rintro e w14 ⟨rfl, hb⟩
            have his14 := his13.below hb
            have hk14 := hk13.trans (Wn.ofBelow hb)
            clear hb hk13 his13
            obtain ⟨⟨h0, h1, h2, h3, h4, h5⟩, ⟨i0, i1, i2, i3, i4, i5⟩⟩ := HCC2.out _ hk14
            have hcall := C9.out _ his14
            go_wp2_with fail
            clear h0 h1 h2 h3 h4 h5 i0 i1 i2 i3 i4 i5
            (with_reducible refine hcall.mono ?_)
            clear hcall
            rintro e w15 hq
            unfold AllPost at hq
            obtain ⟨A3, c3, n4, hn4, rfl, _, _, _, hb⟩ := hq
            obtain rfl : n2 = n4 := by have := HP6.out; have := HN2.out; simp at *; omega
            clear hn4
            have his15 := his14.below hb
            have hk15 := hk14.trans (Wn.ofBelow hb)
            clear hb hk14 his14
            obtain ⟨⟨h0, h1, h2, h3, h4, h5⟩, ⟨i0, i1, i2, i3, i4, i5⟩⟩ := HCC2.out _ hk15
            have HF := Lib.hid (HBw7.out.trans ((hk15.below HLO7.out.1).mono HLO7.out.2))
            go_wp2_with fail
            go_ret
            exact ⟨rfl, HF.out⟩
          | true =>
            clear P2
            have his7 := HIS7.out
            have hk7 : Wn lo w7 w7 := Wn.refl _ _
            have hneq := HNE.out
            have heqq := HEQ.out
            rw [show decide (t = s) = true from decide_eq_true he] at hneq heqq
            simp only [Bool.not_true] at hneq
            clear he
            obtain ⟨⟨h0, h1, h2, h3, h4, h5⟩, ⟨i0, i1, i2, i3, i4, i5⟩⟩ := HCC2.out _ hk7
            have hcall := C1.out _ his7
            go_wp2_with fail
            clear h0 h1 h2 h3 h4 h5 i0 i1 i2 i3 i4 i5
            (with_reducible refine hcall.mono ?_)
            clear hcall
            rintro e w8 ⟨rfl, hb⟩
            have his8 := his7.below hb
            have hk8 := hk7.trans (Wn.ofBelow hb)
            clear hb hk7 his7
            obtain ⟨⟨h0, h1, h2, h3, h4, h5⟩, ⟨i0, i1, i2, i3, i4, i5⟩⟩ := HCC2.out _ hk8
            have hcall := C2.out _ his8
            go_wp2_with fail
            clear h0 h1 h2 h3 h4 h5 i0 i1 i2 i3 i4 i5
            (with_reducible refine hcall.mono ?_)
            clear hcall
            rintro e w9 hq
            unfold AllPost at hq
            obtain ⟨A2, c2, n2, hn2, rfl, _, _, _, hb⟩ := hq
            have HN2 := Lib.hid hn2
            clear hn2
            have his9 := his8.below hb
            have hk9 := hk8.trans (Wn.ofBelow hb)
            clear hb hk8 his8
            obtain ⟨⟨h0, h1, h2, h3, h4, h5⟩, ⟨i0, i1, i2, i3, i4, i5⟩⟩ := HCC2.out _ hk9
            have hcall := C3.out _ his9
            go_wp2_with fail
            clear h0 h1 h2 h3 h4 h5 i0 i1 i2 i3 i4 i5
            (with_reducible refine hcall.mono ?_)
            clear hcall
            rintro e w10 ⟨rfl, hb⟩
            have his10 := his9.below hb
            have hk10 := hk9.trans (Wn.ofBelow hb)
            clear hb hk9 his9
            obtain ⟨⟨h0, h1, h2, h3, h4, h5⟩, ⟨i0, i1, i2, i3, i4, i5⟩⟩ := HCC2.out _ hk10
            have hcall := C4.out _ his10
            go_wp2_with fail
            clear h0 h1 h2 h3 h4 h5 i0 i1 i2 i3 i4 i5
            (with_reducible refine hcall.mono ?_)
            clear hcall
            rintro e w11 ⟨rfl, hi, hwn⟩
            have his11 := hi
            have hk11 := hk10.trans hwn
            clear hi hwn hk10 his10
            obtain ⟨⟨h0, h1, h2, h3, h4, h5⟩, ⟨i0, i1, i2, i3, i4, i5⟩⟩ := HCC2.out _ hk11
            have hcall := C5.out _ his11
            go_wp2_with fail
            clear h0 h1 h2 h3 h4 h5 i0 i1 i2 i3 i4 i5
            (with_reducible refine hcall.mono ?_)
            clear hcall
            rintro e w12 ⟨rfl, hb⟩
            have his12 := his11.below hb
            have hk12 := hk11.trans (Wn.ofBelow hb)
            clear hb hk11 his11
            obtain ⟨⟨h0, h1, h2, h3, h4, h5⟩, ⟨i0, i1, i2, i3, i4, i5⟩⟩ := HCC2.out _ hk12
            have hcall := C7.out _ his12
            go_wp2_with fail
            clear h0 h1 h2 h3 h4 h5 i0 i1 i2 i3 i4 i5
            (with_reducible refine hcall.mono ?_)
            clear hcall
            rintro e w13 ⟨rfl, hi, hwn⟩
            have his13 := hi
            have hk13 := hk12.trans hwn
            clear hi hwn hk12 his12
            obtain ⟨⟨h0, h1, h2, h3, h4, h5⟩, ⟨i0, i1, i2, i3, i4, i5⟩⟩ := HCC2.out _ hk13
            have hcall := C8.out _ his13
            go_wp2_with fail
            clear h0 h1 h2 h3 h4 h5 i0 i1 i2 i3 i4 i5
            (with_reducible refine hcall.mono ?_)
            clear hcall
            rintro e w14 ⟨rfl, hb⟩
            have his14 := his13.below hb
            have hk14 := hk13.trans (Wn.ofBelow hb)
            clear hb hk13 his13
            obtain ⟨⟨h0, h1, h2, h3, h4, h5⟩, ⟨i0, i1, i2, i3, i4, i5⟩⟩ := HCC2.out _ hk14
            have hcall := C9.out _ his14
            go_wp2_with fail
            clear h0 h1 h2 h3 h4 h5 i0 i1 i2 i3 i4 i5
            (with_reducible refine hcall.mono ?_)
            clear hcall
            rintro e w15 hq
            unfold AllPost at hq
            obtain ⟨A3, c3, n4, hn4, rfl, _, _, _, hb⟩ := hq
            obtain rfl : n2 = n4 := by have := HP6.out; have := HN2.out; simp at *; omega
            clear hn4
            have his15 := his14.below hb
            have hk15 := hk14.trans (Wn.ofBelow hb)
            clear hb hk14 his14
            obtain ⟨⟨h0, h1, h2, h3, h4, h5⟩, ⟨i0, i1, i2, i3, i4, i5⟩⟩ := HCC2.out _ hk15
            have HF := Lib.hid (HBw7.out.trans ((hk15.below HLO7.out.1).mono HLO7.out.2))
            go_wp2_with fail
            go_ret
            exact ⟨rfl, HF.out⟩
        | true =>
          cases put with
          | false =>
            clear P2
            have his7 := HIS7.out
            have hk7 : Wn lo w7 w7 := Wn.refl _ _
            have hneq := HNE.out
            have heqq := HEQ.out
            rw [show decide (t = s) = true from decide_eq_true he] at hneq heqq
            simp only [Bool.not_true] at hneq
            clear he
            obtain ⟨⟨h0, h1, h2, h3, h4, h5⟩, ⟨i0, i1, i2, i3, i4, i5⟩⟩ := HCC2.out _ hk7
            have hcall := C1.out _ his7
            go_wp2_with fail
            clear h0 h1 h2 h3 h4 h5 i0 i1 i2 i3 i4 i5
            (with_reducible refine hcall.mono ?_)
            clear hcall
            rintro e w8 ⟨rfl, hb⟩
            have his8 := his7.below hb
            have hk8 := hk7.trans (Wn.ofBelow hb)
            clear hb hk7 his7
            obtain ⟨⟨h0, h1, h2, h3, h4, h5⟩, ⟨i0, i1, i2, i3, i4, i5⟩⟩ := HCC2.out _ hk8
            have hcall := C2.out _ his8
            go_wp2_with fail
            clear h0 h1 h2 h3 h4 h5 i0 i1 i2 i3 i4 i5
            (with_reducible refine hcall.mono ?_)
            clear hcall
            rintro e w9 hq
            unfold AllPost at hq
            obtain ⟨A2, c2, n2, hn2, rfl, _, _, _, hb⟩ := hq
            have HN2 := Lib.hid hn2
            clear hn2
            have his9 := his8.below hb
            have hk9 := hk8.trans (Wn.ofBelow hb)
            clear hb hk8 his8
            obtain ⟨⟨h0, h1, h2, h3, h4, h5⟩, ⟨i0, i1, i2, i3, i4, i5⟩⟩ := HCC2.out _ hk9
            have hcall := C3.out _ his9
            go_wp2_with fail
            clear h0 h1 h2 h3 h4 h5 i0 i1 i2 i3 i4 i5
            (with_reducible refine hcall.mono ?_)
            clear hcall
            rintro e w10 ⟨rfl, hb⟩
            have his10 := his9.below hb
            have hk10 := hk9.trans (Wn.ofBelow hb)
            clear hb hk9 his9
            obtain ⟨⟨h0, h1, h2, h3, h4, h5⟩, ⟨i0, i1, i2, i3, i4, i5⟩⟩ := HCC2.out _ hk10
            have hcall := C4.out _ his10
            go_wp2_with fail
            clear h0 h1 h2 h3 h4 h5 i0 i1 i2 i3 i4 i5
            (with_reducible refine hcall.mono ?_)
            clear hcall
            rintro e w11 ⟨rfl, hi, hwn⟩
            have his11 := hi
            have hk11 := hk10.trans hwn
            clear hi hwn hk10 his10
            obtain ⟨⟨h0, h1, h2, h3, h4, h5⟩, ⟨i0, i1, i2, i3, i4, i5⟩⟩ := HCC2.out _ hk11
            have hcall := C5.out _ his11
            go_wp2_with fail
            clear h0 h1 h2 h3 h4 h5 i0 i1 i2 i3 i4 i5
            (with_reducible refine hcall.mono ?_)
            clear hcall
            rintro e w12 ⟨rfl, hb⟩
            have his12 := his11.below hb
            have hk12 := hk11.trans (Wn.ofBelow hb)
            clear hb hk11 his11
            obtain ⟨⟨h0, h1, h2, h3, h4, h5⟩, ⟨i0, i1, i2, i3, i4, i5⟩⟩ := HCC2.out _ hk12
            have hcall := C7.out _ his12
            go_wp2_with fail
            clear h0 h1 h2 h3 h4 h5 i0 i1 i2 i3 i4 i5
            (with_reducible refine hcall.mono ?_)
            clear hcall
            rintro e w13 ⟨rfl, hi, hwn⟩
            have his13 := hi
            have hk13 := hk12.trans hwn
            clear hi hwn hk12 his12
            obtain ⟨n3, hn3⟩ : ∃ n3, n2 = n3 + 1 := ⟨m2.length, by have := HP6.out; have := HN2.out; simp at *; omega⟩
            subst hn3
            have hsub : wrap64 (n3 : Int) = (n3 : Int) := by have := HN2.out; have := HLEN.out; simp only [wrap64]; omega
            obtain ⟨⟨h0, h1, h2, h3, h4, h5⟩, ⟨i0, i1, i2, i3, i4, i5⟩⟩ := HCC2.out _ hk13
            have hcall := C8.out _ his13
            go_wp2_with fail
            clear h0 h1 h2 h3 h4 h5 i0 i1 i2 i3 i4 i5
            (with_reducible refine hcall.mono ?_)
            clear hcall
            rintro e w14 ⟨rfl, hb⟩
            have his14 := his13.below hb
            have hk14 := hk13.trans (Wn.ofBelow hb)
            clear hb hk13 his13
            obtain ⟨⟨h0, h1, h2, h3, h4, h5⟩, ⟨i0, i1, i2, i3, i4, i5⟩⟩ := HCC2.out _ hk14
            have hcall := C9.out _ his14
            go_wp2_with fail
            clear h0 h1 h2 h3 h4 h5 i0 i1 i2 i3 i4 i5
            (with_reducible refine hcall.mono ?_)
            clear hcall
            rintro e w15 hq
            unfold AllPost at hq
            obtain ⟨A3, c3, n4, hn4, rfl, _, _, _, hb⟩ := hq
            obtain rfl : n3 = n4 := by have := HP6.out; have := HN2.out; simp at *; omega
            clear hn4
            have his15 := his14.below hb
            have hk15 := hk14.trans (Wn.ofBelow hb)
            clear hb hk14 his14
            obtain ⟨⟨h0, h1, h2, h3, h4, h5⟩, ⟨i0, i1, i2, i3, i4, i5⟩⟩ := HCC2.out _ hk15
            have HF := Lib.hid (HBw7.out.trans ((hk15.below HLO7.out.1).mono HLO7.out.2))
            go_wp2_with fail
            go_ret
            exact ⟨rfl, HF.out⟩
          | true =>
            cases P2
      · skip
        cases had with
        | false =>
          cases put with
          | false =>
            clear P2
            have his7 := HIS7.out
            have hk7 : Wn lo w7 w7 := Wn.refl _ _
            have hneq := HNE.out
            have heqq := HEQ.out
            rw [show decide (t = s) = false from decide_eq_false he] at hneq heqq
            simp only [Bool.not_false] at hneq
            obtain ⟨⟨h0, h1, h2, h3, h4, h5⟩, ⟨i0, i1, i2, i3, i4, i5⟩⟩ := HCC2.out _ hk7
            have hcall := C1.out _ his7
            go_wp2_with fail
            clear h0 h1 h2 h3 h4 h5 i0 i1 i2 i3 i4 i5
            (with_reducible refine hcall.mono ?_)
            clear hcall
            rintro e w8 ⟨rfl, hb⟩
            have his8 := his7.below hb
            have hk8 := hk7.trans (Wn.ofBelow hb)
            clear hb hk7 his7
            obtain ⟨⟨h0, h1, h2, h3, h4, h5⟩, ⟨i0, i1, i2, i3, i4, i5⟩⟩ := HCC2.out _ hk8
            have hcall := C2.out _ his8
            go_wp2_with fail
            clear h0 h1 h2 h3 h4 h5 i0 i1 i2 i3 i4 i5
            (with_reducible refine hcall.mono ?_)
            clear hcall
            rintro e w9 hq
            unfold AllPost at hq
            obtain ⟨A2, c2, n2, hn2, rfl, _, _, _, hb⟩ := hq
            have HN2 := Lib.hid hn2
            clear hn2
            have his9 := his8.below hb
            have hk9 := hk8.trans (Wn.ofBelow hb)
            clear hb hk8 his8
            obtain ⟨⟨h0, h1, h2, h3, h4, h5⟩, ⟨i0, i1, i2, i3, i4, i5⟩⟩ := HCC2.out _ hk9
            have hcall := C3.out _ his9
            go_wp2_with fail
            clear h0 h1 h2 h3 h4 h5 i0 i1 i2 i3 i4 i5
            (with_reducible refine hcall.mono ?_)
            clear hcall
            rintro e w10 ⟨rfl, hb⟩
            have his10 := his9.below hb
            have hk10 := hk9.trans (Wn.ofBelow hb)
            clear hb hk9 his9
            obtain ⟨⟨h0, h1, h2, h3, h4, h5⟩, ⟨i0, i1, i2, i3, i4, i5⟩⟩ := HCC2.out _ hk10
            have hcall := C4.out _ his10
            go_wp2_with fail
            clear h0 h1 h2 h3 h4 h5 i0 i1 i2 i3 i4 i5
            (with_reducible refine hcall.mono ?_)
            clear hcall
            rintro e w11 ⟨rfl, hi, hwn⟩
            have his11 := hi
            have hk11 := hk10.trans hwn
            clear hi hwn hk10 his10
            obtain ⟨⟨h0, h1, h2, h3, h4, h5⟩, ⟨i0, i1, i2, i3, i4, i5⟩⟩ := HCC2.out _ hk11
            have hcall := C5.out _ his11
            go_wp2_with fail
            clear h0 h1 h2 h3 h4 h5 i0 i1 i2 i3 i4 i5
            (with_reducible refine hcall.mono ?_)
            clear hcall
            rintro e w12 ⟨rfl, hb⟩
            have his12 := his11.below hb
            have hk12 := hk11.trans (Wn.ofBelow hb)
            clear hb hk11 his11
            obtain ⟨⟨h0, h1, h2, h3, h4, h5⟩, ⟨i0, i1, i2, i3, i4, i5⟩⟩ := HCC2.out _ hk12
            have hcall := C6.out _ his12
            go_wp2_with fail
            clear h0 h1 h2 h3 h4 h5 i0 i1 i2 i3 i4 i5
            (with_reducible refine hcall.mono ?_)
            clear hcall
            rintro e w13 ⟨rfl, hb⟩
            rw [HP3.out (fun e => he e.symm)]
            have his13 := his12.below hb
            have hk13 := hk12.trans (Wn.ofBelow hb)
            clear hb hk12 his12
            obtain ⟨⟨h0, h1, h2, h3, h4, h5⟩, ⟨i0, i1, i2, i3, i4, i5⟩⟩ := HCC2.out _ hk13
            have hcall := C7.out _ his13
            go_wp2_with fail
            clear h0 h1 h2 h3 h4 h5 i0 i1 i2 i3 i4 i5
            (with_reducible refine hcall.mono ?_)
            clear hcall
            rintro e w14 ⟨rfl, hi, hwn⟩
            have his14 := hi
            have hk14 := hk13.trans hwn
            clear hi hwn hk13 his13
            obtain ⟨⟨h0, h1, h2, h3, h4, h5⟩, ⟨i0, i1, i2, i3, i4, i5⟩⟩ := HCC2.out _ hk14
            have hcall := C8.out _ his14
            go_wp2_with fail
            clear h0 h1 h2 h3 h4 h5 i0 i1 i2 i3 i4 i5
            (with_reducible refine hcall.mono ?_)
            clear hcall
            rintro e w15 ⟨rfl, hb⟩
            have his15 := his14.below hb
            have hk15 := hk14.trans (Wn.ofBelow hb)
            clear hb hk14 his14
            obtain ⟨⟨h0, h1, h2, h3, h4, h5⟩, ⟨i0, i1, i2, i3, i4, i5⟩⟩ := HCC2.out _ hk15
            have hcall := C9.out _ his15
            go_wp2_with fail
            clear h0 h1 h2 h3 h4 h5 i0 i1 i2 i3 i4 i5
            (with_reducible refine hcall.mono ?_)
            clear hcall
            rintro e w16 hq
            unfold AllPost at hq
            obtain ⟨A3, c3, n4, hn4, rfl, _, _, _, hb⟩ := hq
            obtain rfl : n2 = n4 := by have := HP6.out; have := HN2.out; simp at *; omega
            clear hn4
            have his16 := his15.below hb
            have hk16 := hk15.trans (Wn.ofBelow hb)
            clear hb hk15 his15
            obtain ⟨⟨h0, h1, h2, h3, h4, h5⟩, ⟨i0, i1, i2, i3, i4, i5⟩⟩ := HCC2.out _ hk16
            have hcall := C10.out _ his16
            go_wp2_with fail
            clear h0 h1 h2 h3 h4 h5 i0 i1 i2 i3 i4 i5
            (with_reducible refine hcall.mono ?_)
            clear hcall
            rintro e w17 ⟨rfl, hb⟩
            rw [HP5.out (fun e => he e.symm)]
            have his17 := his16.below hb
            have hk17 := hk16.trans (Wn.ofBelow hb)
            clear hb hk16 his16
            obtain ⟨⟨h0, h1, h2, h3, h4, h5⟩, ⟨i0, i1, i2, i3, i4, i5⟩⟩ := HCC2.out _ hk17
            have HF := Lib.hid (HBw7.out.trans ((hk17.below HLO7.out.1).mono HLO7.out.2))
            go_wp2_with fail
            go_ret
            exact ⟨rfl, HF.out⟩
          | true =>
            clear P2
            have his7 := HIS7.out
            have hk7 : Wn lo w7 w7 := Wn.refl _ _
            have hneq := HNE.out
            have heqq := HEQ.out
            rw [show decide (t = s) = false from decide_eq_false he] at hneq heqq
            simp only [Bool.not_false] at hneq
            obtain ⟨⟨h0, h1, h2, h3, h4, h5⟩, ⟨i0, i1, i2, i3, i4, i5⟩⟩ := HCC2.out _ hk7
            have hcall := C1.out _ his7
            go_wp2_with fail
            clear h0 h1 h2 h3 h4 h5 i0 i1 i2 i3 i4 i5
            (with_reducible refine hcall.mono ?_)
            clear hcall
            rintro e w8 ⟨rfl, hb⟩
            have his8 := his7.below hb
            have hk8 := hk7.trans (Wn.ofBelow hb)
            clear hb hk7 his7
            obtain ⟨⟨h0, h1, h2, h3, h4, h5⟩, ⟨i0, i1, i2, i3, i4, i5⟩⟩ := HCC2.out _ hk8
            have hcall := C2.out _ his8
            go_wp2_with fail
            clear h0 h1 h2 h3 h4 h5 i0 i1 i2 i3 i4 i5
            (with_reducible refine hcall.mono ?_)
            clear hcall
            rintro e w9 hq
            unfold AllPost at hq
            obtain ⟨A2, c2, n2, hn2, rfl, _, _, _, hb⟩ := hq
            have HN2 := Lib.hid hn2
            clear hn2
            have his9 := his8.below hb
            have hk9 := hk8.trans (Wn.ofBelow hb)
            clear hb hk8 his8
            obtain ⟨⟨h0, h1, h2, h3, h4, h5⟩, ⟨i0, i1, i2, i3, i4, i5⟩⟩ := HCC2.out _ hk9
            have hcall := C3.out _ his9
            go_wp2_with fail
            clear h0 h1 h2 h3 h4 h5 i0 i1 i2 i3 i4 i5
            (with_reducible refine hcall.mono ?_)
            clear hcall
            rintro e w10 ⟨rfl, hb⟩
            have his10 := his9.below hb
            have hk10 := hk9.trans (Wn.ofBelow hb)
            clear hb hk9 his9
            obtain ⟨⟨h0, h1, h2, h3, h4, h5⟩, ⟨i0, i1, i2, i3, i4, i5⟩⟩ := HCC2.out _ hk10
            have hcall := C4.out _ his10
            go_wp2_with fail
            clear h0 h1 h2 h3 h4 h5 i0 i1 i2 i3 i4 i5
            (with_reducible refine hcall.mono ?_)
            clear hcall
            rintro e w11 ⟨rfl, hi, hwn⟩
            have his11 := hi
            have hk11 := hk10.trans hwn
            clear hi hwn hk10 his10
            obtain ⟨⟨h0, h1, h2, h3, h4, h5⟩, ⟨i0, i1, i2, i3, i4, i5⟩⟩ := HCC2.out _ hk11
            have hcall := C5.out _ his11
            go_wp2_with fail
            clear h0 h1 h2 h3 h4 h5 i0 i1 i2 i3 i4 i5
            (with_reducible refine hcall.mono ?_)
            clear hcall
            rintro e w12 ⟨rfl, hb⟩
            have his12 := his11.below hb
            have hk12 := hk11.trans (Wn.ofBelow hb)
            clear hb hk11 his11
            obtain ⟨⟨h0, h1, h2, h3, h4, h5⟩, ⟨i0, i1, i2, i3, i4, i5⟩⟩ := HCC2.out _ hk12
            have hcall := C6.out _ his12
            go_wp2_with fail
            clear h0 h1 h2 h3 h4 h5 i0 i1 i2 i3 i4 i5
            (with_reducible refine hcall.mono ?_)
            clear hcall
            rintro e w13 ⟨rfl, hb⟩
            rw [HP3.out (fun e => he e.symm)]
            have his13 := his12.below hb
            have hk13 := hk12.trans (Wn.ofBelow hb)
            clear hb hk12 his12
            obtain ⟨⟨h0, h1, h2, h3, h4, h5⟩, ⟨i0, i1, i2, i3, i4, i5⟩⟩ := HCC2.out _ hk13
            have hcall := C7.out _ his13
            go_wp2_with fail
            clear h0 h1 h2 h3 h4 h5 i0 i1 i2 i3 i4 i5
            (with_reducible refine hcall.mono ?_)
            clear hcall
            rintro e w14 ⟨rfl, hi, hwn⟩
            have his14 := hi
            have hk14 := hk13.trans hwn
            clear hi hwn hk13 his13
            obtain ⟨⟨h0, h1, h2, h3, h4, h5⟩, ⟨i0, i1, i2, i3, i4, i5⟩⟩ := HCC2.out _ hk14
            have hcall := C8.out _ his14
            go_wp2_with fail
            clear h0 h1 h2 h3 h4 h5 i0 i1 i2 i3 i4 i5
            (with_reducible refine hcall.mono ?_)
            clear hcall
            rintro e w15 ⟨rfl, hb⟩
            have his15 := his14.below hb
            have hk15 := hk14.trans (Wn.ofBelow hb)
            clear hb hk14 his14
            obtain ⟨⟨h0, h1, h2, h3, h4, h5⟩, ⟨i0, i1, i2, i3, i4, i5⟩⟩ := HCC2.out _ hk15
            have hcall := C9.out _ his15
            go_wp2_with fail
            clear h0 h1 h2 h3 h4 h5 i0 i1 i2 i3 i4 i5
            (with_reducible refine hcall.mono ?_)
            clear hcall
            rintro e w16 hq
            unfold AllPost at hq
            obtain ⟨A3, c3, n4, hn4, rfl, _, _, _, hb⟩ := hq
            obtain rfl : n2 = n4 := by have := HP6.out; have := HN2.out; simp at *; omega
            clear hn4
            have his16 := his15.below hb
            have hk16 := hk15.trans (Wn.ofBelow hb)
            clear hb hk15 his15
            obtain ⟨⟨h0, h1, h2, h3, h4, h5⟩, ⟨i0, i1, i2, i3, i4, i5⟩⟩ := HCC2.out _ hk16
            have hcall := C10.out _ his16
            go_wp2_with fail
            clear h0 h1 h2 h3 h4 h5 i0 i1 i2 i3 i4 i5
            (with_reducible refine hcall.mono ?_)
            clear hcall
            rintro e w17 ⟨rfl, hb⟩
            rw [HP5.out (fun e => he e.symm)]
            have his17 := his16.below hb
            have hk17 := hk16.trans (Wn.ofBelow hb)
            clear hb hk16 his16
            obtain ⟨⟨h0, h1, h2, h3, h4, h5⟩, ⟨i0, i1, i2, i3, i4, i5⟩⟩ := HCC2.out _ hk17
            have HF := Lib.hid (HBw7.out.trans ((hk17.below HLO7.out.1).mono HLO7.out.2))
            go_wp2_with fail
            go_ret
            exact ⟨rfl, HF.out⟩
        | true =>
          cases put with
          | false =>
            clear P2
            have his7 := HIS7.out
            have hk7 : Wn lo w7 w7 := Wn.refl _ _
            have hneq := HNE.out
            have heqq := HEQ.out
            rw [show decide (t = s) = false from decide_eq_false he] at hneq heqq
            simp only [Bool.not_false] at hneq
            obtain ⟨⟨h0, h1, h2, h3, h4, h5⟩, ⟨i0, i1, i2, i3, i4, i5⟩⟩ := HCC2.out _ hk7
            have hcall := C1.out _ his7
            go_wp2_with fail
            clear h0 h1 h2 h3 h4 h5 i0 i1 i2 i3 i4 i5
            (with_reducible refine hcall.mono ?_)
            clear hcall
            rintro e w8 ⟨rfl, hb⟩
            have his8 := his7.below hb
            have hk8 := hk7.trans (Wn.ofBelow hb)
            clear hb hk7 his7
            obtain ⟨⟨h0, h1, h2, h3, h4, h5⟩, ⟨i0, i1, i2, i3, i4, i5⟩⟩ := HCC2.out _ hk8
            have hcall := C2.out _ his8
            go_wp2_with fail
            clear h0 h1 h2 h3 h4 h5 i0 i1 i2 i3 i4 i5
            (with_reducible refine hcall.mono ?_)
            clear hcall
            rintro e w9 hq
            unfold AllPost at hq
            obtain ⟨A2, c2, n2, hn2, rfl, _, _, _, hb⟩ := hq
            have HN2 := Lib.hid hn2
            clear hn2
            have his9 := his8.below hb
            have hk9 := hk8.trans (Wn.ofBelow hb)
            clear hb hk8 his8
            obtain ⟨⟨h0, h1, h2, h3, h4, h5⟩, ⟨i0, i1, i2, i3, i4, i5⟩⟩ := HCC2.out _ hk9
            have hcall := C3.out _ his9
            go_wp2_with fail
            clear h0 h1 h2 h3 h4 h5 i0 i1 i2 i3 i4 i5
            (with_reducible refine hcall.mono ?_)
            clear hcall
            rintro e w10 ⟨rfl, hb⟩
            have his10 := his9.below hb
            have hk10 := hk9.trans (Wn.ofBelow hb)
            clear hb hk9 his9
            obtain ⟨⟨h0, h1, h2, h3, h4, h5⟩, ⟨i0, i1, i2, i3, i4, i5⟩⟩ := HCC2.out _ hk10
            have hcall := C4.out _ his10
            go_wp2_with fail
            clear h0 h1 h2 h3 h4 h5 i0 i1 i2 i3 i4 i5
            (with_reducible refine hcall.mono ?_)
            clear hcall
            rintro e w11 ⟨rfl, hi, hwn⟩
            have his11 := hi
            have hk11 := hk10.trans hwn
            clear hi hwn hk10 his10
            obtain ⟨⟨h0, h1, h2, h3, h4, h5⟩, ⟨i0, i1, i2, i3, i4, i5⟩⟩ := HCC2.out _ hk11
            have hcall := C5.out _ his11
            go_wp2_with fail
            clear h0 h1 h2 h3 h4 h5 i0 i1 i2 i3 i4 i5
            (with_reducible refine hcall.mono ?_)
            clear hcall
            rintro e w12 ⟨rfl, hb⟩
            have his12 := his11.below hb
            have hk12 := hk11.trans (Wn.ofBelow hb)
            clear hb hk11 his11
            obtain ⟨⟨h0, h1, h2, h3, h4, h5⟩, ⟨i0, i1, i2, i3, i4, i5⟩⟩ := HCC2.out _ hk12
            have hcall := C6.out _ his12
            go_wp2_with fail
            clear h0 h1 h2 h3 h4 h5 i0 i1 i2 i3 i4 i5
            (with_reducible refine hcall.mono ?_)
            clear hcall
            rintro e w13 ⟨rfl, hb⟩
            rw [HP3.out (fun e => he e.symm)]
            have his13 := his12.below hb
            have hk13 := hk12.trans (Wn.ofBelow hb)
            clear hb hk12 his12
            obtain ⟨⟨h0, h1, h2, h3, h4, h5⟩, ⟨i0, i1, i2, i3, i4, i5⟩⟩ := HCC2.out _ hk13
            have hcall := C7.out _ his13
            go_wp2_with fail
            clear h0 h1 h2 h3 h4 h5 i0 i1 i2 i3 i4 i5
            (with_reducible refine hcall.mono ?_)
            clear hcall
            rintro e w14 ⟨rfl, hi, hwn⟩
            have his14 := hi
            have hk14 := hk13.trans hwn
            clear hi hwn hk13 his13
            obtain ⟨n3, hn3⟩ : ∃ n3, n2 = n3 + 1 := ⟨m2.length, by have := HP6.out; have := HN2.out; simp at *; omega⟩
            subst hn3
            have hsub : wrap64 (n3 : Int) = (n3 : Int) := by have := HN2.out; have := HLEN.out; simp only [wrap64]; omega
            obtain ⟨⟨h0, h1, h2, h3, h4, h5⟩, ⟨i0, i1, i2, i3, i4, i5⟩⟩ := HCC2.out _ hk14
            have hcall := C8.out _ his14
            go_wp2_with fail
            clear h0 h1 h2 h3 h4 h5 i0 i1 i2 i3 i4 i5
            (with_reducible refine hcall.mono ?_)
            clear hcall
            rintro e w15 ⟨rfl, hb⟩
            have his15 := his14.below hb
            have hk15 := hk14.trans (Wn.ofBelow hb)
            clear hb hk14 his14
            obtain ⟨⟨h0, h1, h2, h3, h4, h5⟩, ⟨i0, i1, i2, i3, i4, i5⟩⟩ := HCC2.out _ hk15
            have hcall := C9.out _ his15
            go_wp2_with fail
            clear h0 h1 h2 h3 h4 h5 i0 i1 i2 i3 i4 i5
            (with_reducible refine hcall.mono ?_)
            clear hcall
            rintro e w16 hq
            unfold AllPost at hq
            obtain ⟨A3, c3, n4, hn4, rfl, _, _, _, hb⟩ := hq
            obtain rfl : n3 = n4 := by have := HP6.out; have := HN2.out; simp at *; omega
            clear hn4
            have his16 := his15.below hb
            have hk16 := hk15.trans (Wn.ofBelow hb)
            clear hb hk15 his15
            obtain ⟨⟨h0, h1, h2, h3, h4, h5⟩, ⟨i0, i1, i2, i3, i4, i5⟩⟩ := HCC2.out _ hk16
            have hcall := C10.out _ his16
            go_wp2_with fail
            clear h0 h1 h2 h3 h4 h5 i0 i1 i2 i3 i4 i5
            (with_reducible refine hcall.mono ?_)
            clear hcall
            rintro e w17 ⟨rfl, hb⟩
            rw [HP5.out (fun e => he e.symm)]
            have his17 := his16.below hb
            have hk17 := hk16.trans (Wn.ofBelow hb)
            clear hb hk16 his16
            obtain ⟨⟨h0, h1, h2, h3, h4, h5⟩, ⟨i0, i1, i2, i3, i4, i5⟩⟩ := HCC2.out _ hk17
            have HF := Lib.hid (HBw7.out.trans ((hk17.below HLO7.out.1).mono HLO7.out.2))
            go_wp2_with fail
            go_ret
            exact ⟨rfl, HF.out⟩
          | true =>
            cases P2
end Go.Proofs.YtilcnhdfdgmekaaGreat.FactsDrops
