/- The document's sets: a tuple put, all put, one dropped. -/
import Derived.Test.YtilcnhdfdgmekaaGreatKFactsLawP
import Derived.Test.YtilcnhdfdgmekaaGreatKHeld
namespace Go.Proofs.YtilcnhdfdgmekaaGreat.FactsRefP
open Go.RowKit Base KeyPlain TuplePlain TupleRef TupleSpec TupleCut FMap FactsPlain FactsMem FactsHas FactsPut FactsDrop FactsNew FactsFind FactsLess FactsObj FactsUsersOf FactsNames FactsOrder FactsRefS FactsFew FactsIs FactsAwake TurnB RowN FactsLawP

/-- one more to a row of one's own -/
theorem app_one {w : World} {base n c : Nat} {A : Option Addr} {xs : List Value} (ho : w.ownsRow base 32 6 (.slice A n c) n xs) (t : Tp) (hz : n ≤ 100000) (hb : base ≤ w.heap.size) (ty : TypeId) :
    ∃ A' c' w', (Builtin.append_ #[22, 22] ty #[.slice A n c, .slice (some ⟨w.heap.size, 0, none⟩) 1 1]).run Tryz.prog (w.alloc (.cells #[.string t.k, .string t.i, .string t.r, .string t.u.k, .string t.u.i, .string t.u.r] 32)) = .ok (.slice A' (n + 1) c') w' ∧
      w'.ownsRow base 32 6 (.slice A' (n + 1) c') (n + 1) (xs ++ encT t) ∧ Below base w w' := by
  have b1 := al w (.cells #[.string t.k, .string t.i, .string t.r, .string t.u.k, .string t.u.i, .string t.u.r] 32)
  have ho1 := own_same (w' := w.alloc (.cells #[.string t.k, .string t.i, .string t.r, .string t.u.k, .string t.u.i, .string t.u.r] 32)) ho fun k hk => b1.block k (ho.lt k hk).2
  have hnr : Row (w.alloc (.cells #[.string t.k, .string t.i, .string t.r, .string t.u.k, .string t.u.i, .string t.u.r] 32)) (w.heap.size + 1) (some ⟨w.heap.size, 0, none⟩) (encT t) := row_of_block (heap_alloc_new w _)
  obtain ⟨A', c', w', r, o, g, _⟩ := run_append_n (c2 := 1) (m := 1) ty elem_t (by decide) ho1 hnr rfl (by intro v hv; simp [encT, tc] at hv; rcases hv with rfl | rfl | rfl | rfl | rfl | rfl <;> rfl) (by unfold maxLen; omega) (by omega) (by simp; omega)
  exact ⟨A', c', w', r, o, (b1.mono hb).grown g (by simp; omega) fun k hk => (ho1.lt k hk).1⟩
/-- a row of one's own, none so far -/
theorem own_empty (w : World) : (w.alloc (.cells #[] 32)).ownsRow w.heap.size 32 6 (.slice (some ⟨w.heap.size, 0, none⟩) 0 0) 0 (([] : List Tp).flatMap encT) := own_new w
def PuS (b g o : Nat) (t s : Tp) (w : World) : Prop := Bx w b t ∧ w.cell? ⟨g, o, none⟩ = some (.string s.k) ∧ w.cell? ⟨g, o + 1, none⟩ = some (.string s.i) ∧ w.cell? ⟨g, o + 2, none⟩ = some (.string s.r) ∧ w.cell? ⟨g, o + 3, none⟩ = some (.string s.u.k) ∧ w.cell? ⟨g, o + 4, none⟩ = some (.string s.u.i) ∧ w.cell? ⟨g, o + 5, none⟩ = some (.string s.u.r)
theorem cell_b {w w' : World} {p : Addr} {v : Value} (h : w.cell? p = some v) (hb : Below w.heap.size w w') : w'.cell? p = some v := cell_wn (lo := 0) (Wn.ofBelow hb) h
theorem PuS.below {b g o : Nat} {t s : Tp} {w w' : World} (h : PuS b g o t s w) (hb : Below w.heap.size w w') : PuS b g o t s w' :=
  ⟨h.1.below hb, cell_b h.2.1 hb, cell_b h.2.2.1 hb, cell_b h.2.2.2.1 hb, cell_b h.2.2.2.2.1 hb, cell_b h.2.2.2.2.2.1 hb, cell_b h.2.2.2.2.2.2 hb⟩
def RPutPost (w : World) (l : List Tp) (b : Bool) (e : Ending) (w' : World) : Prop := ∃ (A : Option Addr) (c n : Nat), n = l.length ∧ e = .returned (.tuple #[.slice A n c, .bool b]) ∧ TRow w' A l ∧ Below w.heap.size w w'
theorem ins_put {l : List Tp} {t : Tp} (hok : t.ok = true) (hn : t ∉ l) : putT l t = ins ltT t l := by
  unfold putT put
  rw [if_pos hok, if_neg hn]
theorem same_put {l : List Tp} {t : Tp} (h : t.ok = false ∨ t ∈ l) : putT l t = l := by
  unfold putT put
  by_cases hok : t.ok = true
  · rcases h with h | h
    · rw [h] at hok; cases hok
    · rw [if_pos hok, if_pos h]
  · rw [if_neg hok]
set_option maxRecDepth 100000 in
set_option maxHeartbeats 25600000 in
theorem rput_any (W : World) (A : Option Addr) (n c : Nat) (l : List Tp) (t : Tp) (hn : n = l.length) (hr : TRow W A l) (hl : n ≤ 1000) (hT : ∀ s ∈ l, TpF s) (ht : TpF t) :
    Calls Tryz.prog 15 #[.slice A n c, .agg (tc t)] W (RPutPost W (putT l t) (t.ok && decide (t ∉ l))) := by
  obtain ⟨w1, hw1⟩ : ∃ v, v = W.alloc (.cells (tc t) 32) := ⟨_, rfl⟩
  obtain ⟨b3, hb3⟩ : ∃ v, v = W.heap.size := ⟨_, rfl⟩
  have bl1 : Below W.heap.size W w1 := by rw [hw1]; exact al _ _
  have a3 : w1.heap[b3]? = some (.cells (tc t) 32 (0, 0)) := by rw [hw1, hb3]; exact heap_alloc_new W _
  have hx1 : Bx w1 b3 t := six_at a3
  have HX := Lib.hid (fun (w' : World) (hw' : Below w1.heap.size w1 w') => Bx.below hx1 hw')
  have HR := Lib.hid (hr.below bl1)
  have HBw1 := Lib.hid bl1
  have HN := Lib.hid hn
  have HTF := Lib.hid hT
  have HCHK := Lib.hid (refCheck_any t w1 ht)
  have HHAS := Lib.hid (fun (w' : World) (hw' : Below w1.heap.size w1 w') => rhas_any w' A n c l t hn (rowT ((hr.below bl1).below hw')) (by omega))
  have HLS := Lib.hid (fun (s : Tp) (hs : s ∈ l) (w : World) => refLess_any t s w ht (hT s hs))
  have HB3 := Lib.hid hb3
  have HLB := Lib.hid (show b3 < w1.heap.size from heap_lt a3)
  unfold tc at hw1 HCHK ⊢
  unfold tc at HHAS
  have HW1 := Lib.hid hw1
  clear hw1 hb3 bl1 a3 hr hT ht hn
  cases hok : t.ok with
  | false =>
    rw [hok] at HCHK
    have HSM := Lib.hid (same_put (l := l) (t := t) (.inl hok))
    clear hok
    obtain ⟨p0, p1, p2, p3, p4, p5⟩ := HX.out w1 (Below.refl _ _)
    go_enter Tryz.func15, Tryz.ntmps15
    go_upto_region 1 with fail
    rw [← HW1.out, ← HB3.out]
    go_wp2_with fail
    (with_reducible refine HCHK.out.mono ?_)
    rintro e w2 ⟨rfl, hb⟩
    have HB2 := Lib.hid (Below.step HBw1.out hb)
    have HR2 := Lib.hid (HR.out.below hb)
    clear hb p0 p1 p2 p3 p4 p5
    go_wp2_with fail
    go_ret2
    exact ⟨A, c, n, by rw [HSM.out]; exact HN.out, rfl, by rw [HSM.out]; exact HR2.out, HB2.out⟩
  | true =>
    rw [hok] at HCHK
    cases hin : decide (t ∈ l) with
    | true =>
      have hm : t ∈ l := by simpa using hin
      have HSM := Lib.hid (same_put (l := l) (t := t) (.inr hm))
      have hnot : decide (t ∉ l) = false := by simp [hm]
      simp only [hin] at HHAS
      rw [hnot]
      clear hok hin hm hnot
      obtain ⟨p0, p1, p2, p3, p4, p5⟩ := HX.out w1 (Below.refl _ _)
      go_enter Tryz.func15, Tryz.ntmps15
      go_upto_region 1 with fail
      rw [← HW1.out, ← HB3.out]
      go_wp2_with fail
      (with_reducible refine HCHK.out.mono ?_)
      rintro e w2 ⟨rfl, hb⟩
      have hhas := HHAS.out w2 hb
      have HB2 := Lib.hid (Below.step HBw1.out hb)
      have HR2 := Lib.hid (HR.out.below hb)
      clear p0 p1 p2 p3 p4 p5
      obtain ⟨p0, p1, p2, p3, p4, p5⟩ := HX.out w2 hb
      clear hb
      go_wp2_with fail
      (with_reducible refine hhas.mono ?_)
      rintro e w3 ⟨rfl, hb⟩
      have HB3' := Lib.hid (Below.step HB2.out hb)
      have HR3 := Lib.hid (HR2.out.below hb)
      clear hb p0 p1 p2 p3 p4 p5 hhas
      go_wp2_with fail
      go_ret2
      exact ⟨A, c, n, by rw [HSM.out]; exact HN.out, rfl, by rw [HSM.out]; exact HR3.out, HB3'.out⟩
    | false =>
      have hm : t ∉ l := by simpa using hin
      have HSM := Lib.hid (ins_put (l := l) hok hm)
      have hnot : decide (t ∉ l) = true := by simp [hm]
      simp only [hin] at HHAS
      rw [hnot]
      clear hok hin hm hnot
      obtain ⟨p0, p1, p2, p3, p4, p5⟩ := HX.out w1 (Below.refl _ _)
      go_enter Tryz.func15, Tryz.ntmps15
      go_upto_region 1 with fail
      rw [← HW1.out, ← HB3.out]
      go_wp2_with fail
      (with_reducible refine HCHK.out.mono ?_)
      rintro e w2 ⟨rfl, hb2⟩
      have hhas := HHAS.out w2 hb2
      clear p0 p1 p2 p3 p4 p5
      obtain ⟨p0, p1, p2, p3, p4, p5⟩ := HX.out w2 hb2
      have HB2 := Lib.hid hb2
      clear hb2
      go_wp2_with fail
      (with_reducible refine hhas.mono ?_)
      rintro e w3 ⟨rfl, hb3⟩
      have HB13 := Lib.hid (Below.step HB2.out hb3)
      clear hb3 p0 p1 p2 p3 p4 p5 hhas
      go_upto_region 4 with fail
      obtain ⟨w4, hw4⟩ : ∃ v, v = w3.alloc (.cells #[] 32) := ⟨_, rfl⟩
      obtain ⟨lo, hlo⟩ : ∃ v, v = w3.heap.size := ⟨_, rfl⟩
      have ho4 : w4.ownsRow lo 32 6 (.slice (some ⟨lo, 0, none⟩) 0 0) 0 (([] : List Tp).flatMap encT) := by rw [hw4, hlo]; exact own_empty w3
      have hs4 : w4.heap.size = lo + 1 := by rw [hw4, hlo]; simp
      have bl4 : Below w3.heap.size w3 w4 := by rw [hw4]; exact al _ _
      have HB14 := Lib.hid (Below.step HB13.out bl4)
      have HO4 := Lib.hid ho4
      have HLO := Lib.hid (show w1.heap.size ≤ lo by rw [hlo]; exact HB13.out.size)
      have HS4 := Lib.hid hs4
      rw [← hw4, ← hlo]
      clear hw4 hlo ho4 hs4 bl4
      go_wp2_with fail
      go_loopw [6, 7, 8] (fun vo vd vi wr => ∃ (k : Nat) (os : List Tp) (d : Bool) (Ao : Option Addr) (co no : Nat), k ≤ n ∧ vi = .int .i64 k ∧ no = os.length ∧ vo = .slice Ao no co ∧ vd = .bool d ∧ (l.take k).foldl (insF ltT t) ([], false) = (os, d) ∧ wr.ownsRow lo 32 6 (.slice Ao no co) no (os.flatMap encT) ∧ Below lo w4 wr ∧ lo ≤ wr.heap.size) (fun _ _ vi _ => n - (intOf vi).toNat)
      case atStart => exact ⟨0, [], false, _, _, 0, by omega, rfl, rfl, rfl, rfl, rfl, HO4.out, Below.refl _ _, by rw [HS4.out]; omega⟩
      case round =>
        obtain ⟨k, os, d, Ao, co, no, hk, rfl, hno, rfl, rfl, hfo, ho, hbw, hsz⟩ := hrel
        have HFO := Lib.hid hfo
        have HNO := Lib.hid hno
        have HO := Lib.hid ho
        have HBW := Lib.hid hbw
        have HSZ := Lib.hid hsz
        have HB1R := Lib.hid (show Below w1.heap.size w1 wr from HB14.out.trans (hbw.mono HLO.out))
        have HOL := Lib.hid (show no ≤ 2000 by
          have := (insF_len (lt := ltT) t (l.take k) ([], false)).1
          rw [hfo] at this
          simp only [List.length_nil, List.length_take] at this
          have := HN.out
          omega)
        obtain ⟨p0, p1, p2, p3, p4, p5⟩ := HX.out wr HB1R.out
        clear hfo hno ho hbw hsz
        by_cases hlt : k < n
        · have h1 : k < l.length := by rw [← HN.out]; exact hlt
          obtain ⟨gl, og, hA, hgl, q0, q1, q2, q3, q4, q5⟩ := (rowT (HR.out.below HB1R.out)) k h1
          have hx2 := idx_tp (n := n) (c := c) hA hlt
          have HGLO := Lib.hid (show gl < lo by
            obtain ⟨g', o', hA', hg', _⟩ := HR.out k h1
            rw [hA] at hA'
            injection hA' with hA'
            injection hA' with e1
            rw [e1]
            exact Nat.lt_of_lt_of_le hg' HLO.out)
          have HSTEP := Lib.hid (insF_take (lt := ltT) t l k h1)
          have HLESS := Lib.hid (fun w => HLS.out l[k] (List.getElem_mem h1) w)
          generalize l[k] = s at *
          obtain ⟨ol, hol⟩ : ∃ v, v = og + k * 6 := ⟨_, rfl⟩
          rw [← hol] at q0 q1 q2 q3 q4 q5
          simp only [← hol] at hx2
          have HLT := Lib.hid hlt
          clear h1 hA hgl hol
          cases d with
          | true =>
            go_wp2_with fail
            go_quiet (fail)
            obtain ⟨A2, c2, v2, hrun2, ho2, hbv2⟩ := app_one (w := wr.drewN nq) HO.out s (by have := HOL.out; omega) HSZ.out 22
            have HS := Lib.hid (show (l.take (k + 1)).foldl (insF ltT t) ([], false) = (os ++ [s], true) by rw [HSTEP.out, HFO.out]; simp [insF])
            have HO2 := Lib.hid (show v2.ownsRow lo 32 6 (.slice A2 (no + 1) c2) (no + 1) ((os ++ [s]).flatMap encT) by simpa using ho2)
            have HBV := Lib.hid (show Below lo wr v2 from (Base.below_drewN _ _ _).trans hbv2)
            have HSV := Lib.hid (show lo ≤ v2.heap.size from Nat.le_trans HSZ.out (show wr.heap.size ≤ v2.heap.size from hbv2.size))
            clear ho2 hbv2 p0 p1 p2 p3 p4 p5
            go_wp2_with (at_builtin; first | refine wpList_append_run rfl (.tmp 39) (.tmp 44) 22 22 rfl rfl rfl hrun2 ?_)
            go_roundw
            case rel => exact ⟨k + 1, os ++ [s], true, A2, c2, no + 1, by have := HLT.out; omega, by go_num, by rw [HNO.out]; simp, rfl, rfl, HS.out, HO2.out, HBW.out.trans HBV.out, HSV.out⟩
            case measure => have := HLT.out; simp [intOf]; omega
          | false =>
            go_wp2_with fail
            refine wp_region_any (by kernel_rfl) ?_
            change wpAny _ _ _ _ _ _ _ (World.drew _)
            obtain ⟨u0, hu0⟩ : ∃ v, v = World.drew wr := ⟨_, rfl⟩
            rw [← hu0]
            have hs0 : PuS b3 gl ol t s u0 := by rw [hu0]; exact ⟨⟨p0, p1, p2, p3, p4, p5⟩, q0, q1, q2, q3, q4, q5⟩
            have hb0 : Below wr.heap.size wr u0 := by rw [hu0]; exact (Below.refl _ _).drew
            clear hu0 p0 p1 p2 p3 p4 p5 q0 q1 q2 q3 q4 q5
            refine Held.any_of_G (S := (fun w' : World => PuS b3 gl ol t s w')) (z := 9) _ _ _ _ ?_
            refine Held.G_take (i := 0) (d := 25) (v := ?_) [0, 1, 2, 3, 4, 5, 6, 7, 8, 9] rfl rfl (by kernel_rfl) (by kernel_rfl) (by kernel_rfl) (by kernel_rfl) (fun _ _ _ h => h) (Or.inl ⟨by rfl, ?_⟩) hs0 ?_
            rotate_left 1
            · intro w hSw; clear hSw; go_simp <;> with_reducible rfl
            simp only [Act.put, List.setIfInBounds_toArray, List.set_cons_zero, List.set_cons_succ]
            refine Held.G_take (i := 1) (d := 26) (v := ?_) [1, 2, 3, 4, 5, 6, 7, 8, 9] rfl rfl (by kernel_rfl) (by kernel_rfl) (by kernel_rfl) (by kernel_rfl) (fun _ _ _ h => h) (Or.inl ⟨by rfl, ?_⟩) hs0 ?_
            rotate_left 1
            · intro w hSw; clear hSw; go_simp <;> with_reducible rfl
            simp only [Act.put, List.setIfInBounds_toArray, List.set_cons_zero, List.set_cons_succ]
            refine Held.G_take (i := 2) (d := 27) (v := ?_) [2, 3, 4, 5, 6, 7, 8, 9] rfl rfl (by kernel_rfl) (by kernel_rfl) (by kernel_rfl) (by kernel_rfl) (fun _ _ _ h => h) (Or.inl ⟨by rfl, ?_⟩) hs0 ?_
            rotate_left 1
            · intro w hSw; clear hSw; go_simp <;> with_reducible rfl
            simp only [Act.put, List.setIfInBounds_toArray, List.set_cons_zero, List.set_cons_succ]
            refine Held.G_take (i := 3) (d := 28) (v := ?_) [3, 8, 9] rfl rfl (by kernel_rfl) (by kernel_rfl) (by kernel_rfl) (by kernel_rfl) (fun _ _ _ h => h) (Or.inl ⟨by rfl, ?_⟩) hs0 ?_
            rotate_left 1
            · intro w hSw; obtain ⟨⟨p0, p1, p2, p3, p4, p5⟩, q0, q1, q2, q3, q4, q5⟩ := hSw; go_simp <;> with_reducible rfl
            simp only [Act.put, List.setIfInBounds_toArray, List.set_cons_zero, List.set_cons_succ]
            refine Held.G_take (i := 4) (d := 29) (v := ?_) [4, 6, 7, 8, 9] rfl rfl (by kernel_rfl) (by kernel_rfl) (by kernel_rfl) (by kernel_rfl) (fun _ _ _ h => h) (Or.inl ⟨by rfl, ?_⟩) hs0 ?_
            rotate_left 1
            · intro w hSw; clear hSw; go_simp <;> with_reducible rfl
            simp only [Act.put, List.setIfInBounds_toArray, List.set_cons_zero, List.set_cons_succ]
            refine Held.G_take (i := 5) (d := 30) (v := ?_) [5, 6, 7, 8, 9] rfl rfl (by kernel_rfl) (by kernel_rfl) (by kernel_rfl) (by kernel_rfl) (fun _ _ _ h => h) (Or.inl ⟨by rfl, ?_⟩) hs0 ?_
            rotate_left 1
            · intro w hSw; clear hSw; go_simp <;> with_reducible rfl
            simp only [Act.put, List.setIfInBounds_toArray, List.set_cons_zero, List.set_cons_succ]
            refine Held.G_take (i := 6) (d := 31) (v := ?_) [6, 7, 8, 9] rfl rfl (by kernel_rfl) (by kernel_rfl) (by kernel_rfl) (by kernel_rfl) (fun _ _ _ h => h) (Or.inl ⟨by rfl, ?_⟩) hs0 ?_
            rotate_left 1
            · intro w hSw; clear hSw; go_simp <;> with_reducible rfl
            simp only [Act.put, List.setIfInBounds_toArray, List.set_cons_zero, List.set_cons_succ]
            refine Held.G_take (i := 7) (d := 32) (v := ?_) [7, 8, 9] rfl rfl (by kernel_rfl) (by kernel_rfl) (by kernel_rfl) (by kernel_rfl) (fun _ _ _ h => h) (Or.inl ⟨by rfl, ?_⟩) hs0 ?_
            rotate_left 1
            · intro w hSw; obtain ⟨⟨p0, p1, p2, p3, p4, p5⟩, q0, q1, q2, q3, q4, q5⟩ := hSw; go_simp <;> with_reducible rfl
            simp only [Act.put, List.setIfInBounds_toArray, List.set_cons_zero, List.set_cons_succ]
            refine Held.G_ready (rs := [8]) (by decide +kernel) (by simp) ?_
            refine Held.G_cons rfl (fun KK hK => ?_) Held.G_nil
            go_simp
            have hh := HLESS.out u0
            dsimp only [tc] at hh
            (with_reducible refine hh.mono ?_)
            clear hh
            rintro e u1 ⟨rfl, hbu⟩
            have hs1 := PuS.below hs0 hbu
            have hb1 := Below.step hb0 hbu
            clear hs0 hb0 hbu
            go_simp
            refine hK _ _ ?_
            clear hK KK
            refine ⟨hs1, ?_⟩
            refine Held.G_ready (rs := [9]) (by decide +kernel) (by simp) ?_
            refine Held.G_last rfl (fun KK hK => ?_) Held.G_nil
            go_simp
            refine hK _ _ ?_
            clear hK KK
            refine Held.G_done (by kernel_rfl) ?_ _
            obtain ⟨⟨p0, p1, p2, p3, p4, p5⟩, q0, q1, q2, q3, q4, q5⟩ := hs1
            have hob := own_same (w' := u1) HO.out fun j hj => hb1.block j (HO.out.lt j hj).2
            have hszb : lo ≤ u1.heap.size := Nat.le_trans HSZ.out hb1.size
            have HB1 := Lib.hid hb1
            cases hlt2 : ltT t s with
            | true =>
              have hl2 : less (lst t.parts) (lst s.parts) = true := hlt2
              simp only [hl2]
              obtain ⟨A1, c1, v1, hrun1, ho1, hbv1⟩ := app_one hob t (by have := HOL.out; omega) hszb 22
              have hszv : lo ≤ v1.heap.size := Nat.le_trans hszb hbv1.size
              obtain ⟨A2, c2, v2, hrun2, ho2, hbv2⟩ := app_one ho1 s (by have := HOL.out; omega) hszv 22
              have hv1 : ∀ x, x < lo → ∀ y, v1.cell? ⟨x, y, none⟩ = u1.cell? ⟨x, y, none⟩ := fun x hx y => World.cell?_of_block (w := u1) (hbv1.block x hx)
              have HS := Lib.hid (show (l.take (k + 1)).foldl (insF ltT t) ([], false) = (os ++ [t, s], true) by rw [HSTEP.out, HFO.out]; simp [insF, hlt2])
              have HO2 := Lib.hid (show v2.ownsRow lo 32 6 (.slice A2 (no + 1 + 1) c2) (no + 1 + 1) ((os ++ [t, s]).flatMap encT) by simpa using ho2)
              have HBV := Lib.hid (show Below lo wr v2 from (Below.trans (hb1.mono HSZ.out) (hbv1.trans hbv2)))
              have z0 := (hv1 _ HGLO.out _).trans q0
              have z1 := (hv1 _ HGLO.out _).trans q1
              have z2 := (hv1 _ HGLO.out _).trans q2
              have z3 := (hv1 _ HGLO.out _).trans q3
              have z4 := (hv1 _ HGLO.out _).trans q4
              have z5 := (hv1 _ HGLO.out _).trans q5
              have HSV := Lib.hid (Nat.le_trans hszv hbv2.size)
              clear hlt2 hl2 ho1 hbv1 ho2 hbv2 hv1 hob hb1 q0 q1 q2 q3 q4 q5
              go_wp2_with (at_builtin; first | refine wpList_append_run rfl (.tmp 35) (.tmp 37) 22 22 rfl rfl rfl hrun1 ?_ | refine wpList_append_run rfl (.tmp 39) (.tmp 44) 22 22 rfl rfl rfl hrun2 ?_)
              go_roundw
              case rel => exact ⟨k + 1, os ++ [t, s], true, A2, c2, no + 1 + 1, by have := HLT.out; omega, by go_num, by rw [HNO.out]; simp, rfl, rfl, HS.out, HO2.out, HBW.out.trans HBV.out, HSV.out⟩
              case measure => have := HLT.out; simp [intOf]; omega
            | false =>
              have hl2 : less (lst t.parts) (lst s.parts) = false := hlt2
              simp only [hl2]
              obtain ⟨A2, c2, v2, hrun2, ho2, hbv2⟩ := app_one hob s (by have := HOL.out; omega) hszb 22
              have HS := Lib.hid (show (l.take (k + 1)).foldl (insF ltT t) ([], false) = (os ++ [s], false) by rw [HSTEP.out, HFO.out]; simp [insF, hlt2])
              have HO2 := Lib.hid (show v2.ownsRow lo 32 6 (.slice A2 (no + 1) c2) (no + 1) ((os ++ [s]).flatMap encT) by simpa using ho2)
              have HBV := Lib.hid (show Below lo wr v2 from (Below.trans (hb1.mono HSZ.out) hbv2))
              have HSV := Lib.hid (Nat.le_trans hszb hbv2.size)
              clear hlt2 hl2 ho2 hbv2 hob hb1 p0 p1 p2 p3 p4 p5
              go_wp2_with (at_builtin; first | refine wpList_append_run rfl (.tmp 39) (.tmp 44) 22 22 rfl rfl rfl hrun2 ?_)
              go_roundw
              case rel => exact ⟨k + 1, os ++ [s], false, A2, c2, no + 1, by have := HLT.out; omega, by go_num, by rw [HNO.out]; simp, rfl, rfl, HS.out, HO2.out, HBW.out.trans HBV.out, HSV.out⟩
              case measure => have := HLT.out; simp [intOf]; omega
        · have hk' : k = n := by omega
          have hend := insF_end (lt := ltT) t l []
          have hfo := HFO.out
          rw [hk', List.take_of_length_le (by rw [HN.out]; exact Nat.le_refl _)] at hfo
          rw [hfo] at hend
          simp only [List.nil_append] at hend
          have HEND := Lib.hid hend
          clear hend hfo hk'
          cases d with
          | true =>
            have HF := Lib.hid (show RPutPost W (putT l t) true (.returned (.tuple #[.slice Ao no co, .bool true])) wr from ⟨Ao, co, no, by rw [HSM.out, ← HEND.out]; exact HNO.out, rfl, by rw [HSM.out, ← HEND.out]; exact trow_own HNO.out HO.out, HBw1.out.trans (HB1R.out.mono HBw1.out.size)⟩)
            clear p0 p1 p2 p3 p4 p5
            go_wp2_with fail
            go_ret2
            exact HF.out
          | false =>
            obtain ⟨A2, c2, v2, hrun2, ho2, hbv2⟩ := app_one HO.out t (by have := HOL.out; omega) HSZ.out 22
            have HF := Lib.hid (show RPutPost W (putT l t) true (.returned (.tuple #[.slice A2 (no + 1) c2, .bool true])) v2 from ⟨A2, c2, no + 1, by rw [HSM.out, ← HEND.out]; simp [HNO.out], rfl, by
              rw [HSM.out, ← HEND.out]
              exact trow_own (n := no + 1) (by simp [HNO.out]) (by simpa using ho2), (HBw1.out.trans (HB1R.out.mono HBw1.out.size)).trans (hbv2.mono (Nat.le_trans HBw1.out.size HLO.out))⟩)
            clear ho2 hbv2
            go_wp2_with (at_builtin; first | refine wpList_append_run rfl (.tmp 48) (.tmp 50) 22 22 rfl rfl rfl hrun2 ?_)
            go_ret2
            exact HF.out
end Go.Proofs.YtilcnhdfdgmekaaGreat.FactsRefP
