/- The document's names of a kind: one more. -/
import Derived.Test.YtilcnhdfdgmekaaGreatKFactsRefG
namespace Go.Proofs.YtilcnhdfdgmekaaGreat.FactsRefO
open Go.RowKit Base KeyPlain TuplePlain TupleRef TupleSpec TupleCut FMap FactsPlain FactsMem FactsHas FactsPut FactsDrop FactsNew FactsFind FactsLess FactsObj FactsUsersOf FactsNames FactsOrder FactsRefS FactsFew FactsIs FactsAwake TurnB RowN FactsLawP FactsRefP FactsRefN FactsRefU FactsRefF FactsRefG

theorem elem_s : ElemN Tryz.prog 51 9 1 16 := by
  obtain ⟨i, h1, h2, h3, h4⟩ := info_parts (show (Tryz.prog.info? 9).map (fun i => (i.zero, i.size, i.bytes)) = some (some (.string ⟨#[]⟩), 1, 16) from by kernel_rfl)
  exact ⟨Tryz.underlying51, i, _, h1, h2, h3, h4, rfl⟩
theorem app_s {w : World} {base n c : Nat} {A : Option Addr} {xs : List Value} (ho : w.ownsRow base 9 1 (.slice A n c) n xs) (t : ByteArray) (hz : n ≤ 100000) (hb : base ≤ w.heap.size) (ty : TypeId) :
    ∃ A' c' w', (Builtin.append_ #[51, 51] ty #[.slice A n c, .slice (some ⟨w.heap.size, 0, none⟩) 1 1]).run Tryz.prog (w.alloc (.cells #[.string t] 9)) = .ok (.slice A' (n + 1) c') w' ∧
      w'.ownsRow base 9 1 (.slice A' (n + 1) c') (n + 1) (xs ++ [.string t]) ∧ Below base w w' := by
  have b1 := al w (.cells #[.string t] 9)
  have ho1 := own_same (w' := w.alloc (.cells #[.string t] 9)) ho fun k hk => b1.block k (ho.lt k hk).2
  have hnr : Row (w.alloc (.cells #[.string t] 9)) (w.heap.size + 1) (some ⟨w.heap.size, 0, none⟩) [.string t] := row_of_block (heap_alloc_new w _)
  obtain ⟨A', c', w', r, o, g, _⟩ := run_append_n (c2 := 1) (m := 1) ty elem_s (by decide) ho1 hnr rfl (by intro v hv; simp at hv; rcases hv with rfl; rfl) (by unfold maxLen; omega) (by omega) (by simp; omega)
  exact ⟨A', c', w', r, o, (b1.mono hb).grown g (by simp; omega) fun k hk => (ho1.lt k hk).1⟩
theorem own_newS (w : World) : (w.alloc (.cells #[] 9)).ownsRow w.heap.size 9 1 (.slice (some ⟨w.heap.size, 0, none⟩) 0 0) 0 (([] : List ByteArray).map .string) := World.ownsRow_made w #[] 0 (Nat.le_refl _) (by simp [maxLen]) rfl
theorem rowS_own {w : World} {A : Option Addr} {c n base : Nat} {l : List ByteArray} (h : w.ownsRow base 9 1 (.slice A n c) n (l.map .string)) : RowS w A l := by
  refine rowS_of (Row.ofOwn h) ?_
  rcases h.2 with ⟨h1, _⟩ | ⟨g, cap, cur, h1, _⟩
  · injection h1 with h1
    exact .inl h1
  · injection h1 with h1
    exact .inr ⟨g, h1⟩
theorem put_have {l : List ByteArray} {s : ByteArray} (h : s ∈ l) : put ltS l s = l := by unfold put; rw [if_pos h]
theorem put_new {l : List ByteArray} {s : ByteArray} (h : s ∉ l) : put ltS l s = ins ltS s l := by unfold put; rw [if_neg h]
theorem below_s (s t : ByteArray) (w : World) (hs : s.size ≤ 1000000) (ht : t.size ≤ 1000000) :
    Calls Tryz.prog 69 #[.string s, .string t] w fun e w' => e = .returned (.bool (ltS s t)) ∧ Below w.heap.size w w' :=
  (KeyRead.Below_q s t w (by simp [maxLen]; omega) (by simp [maxLen]; omega)).mono fun e w' ⟨he, n, hw⟩ => ⟨he, by rw [hw]; exact Base.below_drewN _ _ _⟩
set_option maxRecDepth 100000 in
set_option maxHeartbeats 25600000 in
theorem rputs_any (W : World) (A : Option Addr) (n c : Nat) (l : List ByteArray) (s : ByteArray) (hn : n = l.length) (hr : RowS W A l) (hl : n ≤ 1000) (hs : s.size ≤ 1000000) (hT : ∀ x ∈ l, x.size ≤ 1000000) :
    Calls Tryz.prog 44 #[.slice A n c, .string s] W (ObjectsPost W (put ltS l s)) := by
  have HR := Lib.hid hr
  have HN := Lib.hid hn
  have HTF := Lib.hid hT
  have HSF := Lib.hid hs
  obtain ⟨w4, hw4⟩ : ∃ v, v = W.alloc (.cells #[] 9) := ⟨_, rfl⟩
  obtain ⟨lo, hlo⟩ : ∃ v, v = W.heap.size := ⟨_, rfl⟩
  have ho4 : w4.ownsRow lo 9 1 (.slice (some ⟨lo, 0, none⟩) 0 0) 0 (([] : List ByteArray).map .string) := by rw [hw4, hlo]; exact own_newS W
  have bl4 : Below W.heap.size W w4 := by rw [hw4]; exact al _ _
  have HO4 := Lib.hid ho4
  have HB14 := Lib.hid bl4
  have HLO := Lib.hid hlo
  have HW4 := Lib.hid hw4
  have HS4 := Lib.hid (show lo ≤ w4.heap.size by rw [hlo]; exact bl4.size)
  clear hr hn hT hs hw4 hlo ho4 bl4
  go_enter Tryz.func44, Tryz.ntmps44
  go_upto_region 2 with fail
  try rw [← HLO.out]
  rw [← HW4.out]
  go_wp2_with fail
  go_loopw [5, 6, 7] (fun vo vd vi wr => ∃ (k : Nat) (os : List ByteArray) (d : Bool) (Ao : Option Addr) (co no : Nat), k ≤ n ∧ vi = .int .i64 k ∧ no = os.length ∧ vo = .slice Ao no co ∧ vd = .bool d ∧ (l.take k).foldl (insF ltS s) ([], false) = (os, d) ∧ s ∉ l.take k ∧ wr.ownsRow lo 9 1 (.slice Ao no co) no (os.map .string) ∧ Below lo W wr ∧ lo ≤ wr.heap.size) (fun _ _ vi _ => n - (intOf vi).toNat)
  case atStart => exact ⟨0, [], false, _, _, 0, by omega, rfl, rfl, rfl, rfl, rfl, by simp, HO4.out, by rw [HLO.out]; exact HB14.out, HS4.out⟩
  case round =>
    obtain ⟨k, os, d, Ao, co, no, hk, rfl, hno, rfl, rfl, hfo, hni, ho, hbw, hsz⟩ := hrel
    have HFO := Lib.hid hfo
    have HNO := Lib.hid hno
    have HNI := Lib.hid hni
    have HO := Lib.hid ho
    have HBW := Lib.hid hbw
    have HSZ := Lib.hid hsz
    have HBW0 := Lib.hid (show Below W.heap.size W wr from by rw [← HLO.out]; exact hbw)
    have HOL := Lib.hid (show no ≤ 2000 by
      have := (insF_len (lt := ltS) s (l.take k) ([], false)).1
      rw [hfo] at this
      simp only [List.length_nil, List.length_take] at this
      have := HN.out
      omega)
    clear hfo hno hni ho hbw hsz
    by_cases hlt : k < n
    · have h1 : k < l.length := by rw [← HN.out]; exact hlt
      obtain ⟨gl, og, hA, hgl, q0⟩ := (HR.out.below HBW0.out) k h1
      have hx2 := idx_s (n := n) (c := c) hA hlt
      have HGLO := Lib.hid (show gl < lo by
        obtain ⟨g', o', hA', hg', _⟩ := HR.out k h1
        rw [hA] at hA'
        injection hA' with hA'
        injection hA' with e1
        rw [e1, HLO.out]
        exact hg')
      have HSTEP := Lib.hid (insF_take (lt := ltS) s l k h1)
      have HMEM := Lib.hid (show (l[k] = s → s ∈ l) ∧ (l[k] ≠ s → s ∉ l.take (k + 1)) from ⟨fun e => by rw [← e]; exact List.getElem_mem h1, fun e hm => by
        rw [List.take_succ_eq_append_getElem h1, List.mem_append, List.mem_singleton] at hm
        exact hm.elim HNI.out fun h => e h.symm⟩)
      have HLESS := Lib.hid (fun w => below_s s l[k] w HSF.out (HTF.out _ (List.getElem_mem h1)))
      generalize l[k] = t at *
      obtain ⟨ol, hol⟩ : ∃ v, v = og + k := ⟨_, rfl⟩
      rw [← hol] at q0
      simp only [← hol] at hx2
      have HLT := Lib.hid hlt
      clear h1 hA hgl hol
      by_cases he : t = s
      · have hq : (t.toList == s.toList) = true := by rw [ba_beq]; simp [he]
        have HF := Lib.hid (show ObjectsPost W (put ltS l s) (.returned (.slice A n c)) wr from ⟨A, c, n, by rw [put_have (HMEM.out.1 he)]; exact HN.out, rfl, by rw [put_have (HMEM.out.1 he)]; exact HR.out.below HBW0.out, HBW0.out⟩)
        clear he
        go_wp2_with fail
        go_ret
        exact HF.out
      · have hq : (t.toList == s.toList) = false := by rw [ba_beq]; simp [he]
        have HNI2 := Lib.hid (HMEM.out.2 he)
        clear he
        cases d with
        | true =>
          obtain ⟨A2, c2, v2, hrun2, ho2, hbv2⟩ := app_s (w := wr) HO.out t (by have := HOL.out; omega) HSZ.out 51
          have HS := Lib.hid (show (l.take (k + 1)).foldl (insF ltS s) ([], false) = (os ++ [t], true) by rw [HSTEP.out, HFO.out]; simp [insF])
          have HO2 := Lib.hid (show v2.ownsRow lo 9 1 (.slice A2 (no + 1) c2) (no + 1) ((os ++ [t]).map .string) by simpa using ho2)
          have HBV := Lib.hid (show Below lo W v2 from HBW.out.trans hbv2)
          have HSV := Lib.hid (show lo ≤ v2.heap.size from Nat.le_trans HSZ.out hbv2.size)
          clear ho2 hbv2
          go_wp2_with (at_builtin; first | refine wpList_append_run rfl (.tmp 36) (.tmp 41) 51 51 rfl rfl rfl hrun2 ?_)
          go_roundw
          case rel => exact ⟨k + 1, os ++ [t], true, A2, c2, no + 1, by have := HLT.out; omega, by go_num, by rw [HNO.out]; simp, rfl, rfl, HS.out, HNI2.out, HO2.out, HBV.out, HSV.out⟩
          case measure => have := HLT.out; simp [intOf]; omega
        | false =>
          have hcall := HLESS.out wr
          go_wp2_with fail
          (with_reducible refine hcall.mono ?_)
          clear hcall
          rintro e u1 ⟨rfl, hb1⟩
          have hob := own_same (w' := u1) HO.out fun j hj => hb1.block j (HO.out.lt j hj).2
          have hszb : lo ≤ u1.heap.size := Nat.le_trans HSZ.out hb1.size
          have q0' := cell_b q0 hb1
          have HB1 := Lib.hid (show Below lo W u1 from HBW.out.trans (hb1.mono HSZ.out))
          clear q0 hq hb1
          cases hlt2 : ltS s t with
          | true =>
            obtain ⟨A1, c1, v1, hrun1, ho1, hbv1⟩ := app_s hob s (by have := HOL.out; omega) hszb 51
            have hszv : lo ≤ v1.heap.size := Nat.le_trans hszb hbv1.size
            obtain ⟨A2, c2, v2, hrun2, ho2, hbv2⟩ := app_s ho1 t (by have := HOL.out; omega) hszv 51
            have z0 := (World.cell?_of_block (w := u1) (hbv1.block gl HGLO.out) : v1.cell? ⟨gl, ol, none⟩ = _).trans q0'
            have HS := Lib.hid (show (l.take (k + 1)).foldl (insF ltS s) ([], false) = (os ++ [s, t], true) by rw [HSTEP.out, HFO.out]; simp [insF, hlt2])
            have HO2 := Lib.hid (show v2.ownsRow lo 9 1 (.slice A2 (no + 1 + 1) c2) (no + 1 + 1) ((os ++ [s, t]).map .string) by simpa using ho2)
            have HBV := Lib.hid (show Below lo W v2 from HB1.out.trans (hbv1.trans hbv2))
            have HSV := Lib.hid (Nat.le_trans hszv hbv2.size)
            clear hlt2 ho1 hbv1 ho2 hbv2 hob q0'
            go_wp2_with (at_builtin; first | refine wpList_append_run rfl (.tmp 32) (.tmp 34) 51 51 rfl rfl rfl hrun1 ?_ | refine wpList_append_run rfl (.tmp 36) (.tmp 41) 51 51 rfl rfl rfl hrun2 ?_)
            go_roundw
            case rel => exact ⟨k + 1, os ++ [s, t], true, A2, c2, no + 1 + 1, by have := HLT.out; omega, by go_num, by rw [HNO.out]; simp, rfl, rfl, HS.out, HNI2.out, HO2.out, HBV.out, HSV.out⟩
            case measure => have := HLT.out; simp [intOf]; omega
          | false =>
            obtain ⟨A2, c2, v2, hrun2, ho2, hbv2⟩ := app_s hob t (by have := HOL.out; omega) hszb 51
            have HS := Lib.hid (show (l.take (k + 1)).foldl (insF ltS s) ([], false) = (os ++ [t], false) by rw [HSTEP.out, HFO.out]; simp [insF, hlt2])
            have HO2 := Lib.hid (show v2.ownsRow lo 9 1 (.slice A2 (no + 1) c2) (no + 1) ((os ++ [t]).map .string) by simpa using ho2)
            have HBV := Lib.hid (show Below lo W v2 from HB1.out.trans hbv2)
            have HSV := Lib.hid (Nat.le_trans hszb hbv2.size)
            clear hlt2 ho2 hbv2 hob
            go_wp2_with (at_builtin; first | refine wpList_append_run rfl (.tmp 36) (.tmp 41) 51 51 rfl rfl rfl hrun2 ?_)
            go_roundw
            case rel => exact ⟨k + 1, os ++ [t], false, A2, c2, no + 1, by have := HLT.out; omega, by go_num, by rw [HNO.out]; simp, rfl, rfl, HS.out, HNI2.out, HO2.out, HBV.out, HSV.out⟩
            case measure => have := HLT.out; simp [intOf]; omega
    · have hk' : k = n := by omega
      have hend := insF_end (lt := ltS) s l []
      have hfo := HFO.out
      have hni := HNI.out
      rw [hk', List.take_of_length_le (by rw [HN.out]; exact Nat.le_refl _)] at hfo hni
      rw [hfo] at hend
      simp only [List.nil_append] at hend
      have HEND := Lib.hid hend
      have HSM := Lib.hid (put_new hni)
      clear hend hfo hk' hni
      cases d with
      | true =>
        have HF := Lib.hid (show ObjectsPost W (put ltS l s) (.returned (.slice Ao no co)) wr from ⟨Ao, co, no, by rw [HSM.out, ← HEND.out]; exact HNO.out, rfl, by rw [HSM.out, ← HEND.out]; exact rowS_own HO.out, HBW0.out⟩)
        go_wp2_with fail
        go_ret
        exact HF.out
      | false =>
        obtain ⟨A2, c2, v2, hrun2, ho2, hbv2⟩ := app_s HO.out s (by have := HOL.out; omega) HSZ.out 51
        have HF := Lib.hid (show ObjectsPost W (put ltS l s) (.returned (.slice A2 (no + 1) c2)) v2 from ⟨A2, c2, no + 1, by rw [HSM.out, ← HEND.out]; simp [HNO.out], rfl, by
          rw [HSM.out, ← HEND.out]
          exact rowS_own (n := no + 1) (by simpa using ho2), HBW0.out.trans (by rw [← HLO.out]; exact hbv2)⟩)
        clear ho2 hbv2
        go_wp2_with (at_builtin; first | refine wpList_append_run rfl (.tmp 45) (.tmp 47) 51 51 rfl rfl rfl hrun2 ?_)
        go_ret
        exact HF.out
end Go.Proofs.YtilcnhdfdgmekaaGreat.FactsRefO
