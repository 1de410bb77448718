/- The document's names of a kind. -/
import Derived.Test.YtilcnhdfdgmekaaGreatKFactsRefO
namespace Go.Proofs.YtilcnhdfdgmekaaGreat.FactsRefB
open Go.RowKit Base KeyPlain TuplePlain TupleRef TupleSpec TupleCut FMap FactsPlain FactsMem FactsHas FactsPut FactsDrop FactsNew FactsFind FactsLess FactsObj FactsUsersOf FactsNames FactsOrder FactsRefS FactsFew FactsIs FactsAwake TurnB RowN FactsLawP FactsRefP FactsRefN FactsRefU FactsRefF FactsRefG FactsRefO

theorem rputs_mk (W : World) (A : Option Addr) (n c : Nat) (xs : List ByteArray) (s : ByteArray) (hn : n = (mk ltS xs).length) (hr : RowS W A (mk ltS xs)) (hl : xs.length ≤ 1000) (hs : s.size ≤ 1000000) (hT : ∀ x ∈ xs, x.size ≤ 1000000) :
    Calls Tryz.prog 44 #[.slice A n c, .string s] W (ObjectsPost W (mk ltS (xs ++ [s]))) := by
  rw [mk_snoc]
  exact rputs_any W A n c _ s hn hr (by have := FactsPlain.mk_len (lt := ltS) xs; omega) hs fun x hx => hT x ((mk_mem (lt := ltS)).1 hx)
theorem names_small {l : List Tp} {kind : ByteArray} (hT : ∀ t ∈ l, t.i.size ≤ 1000000 ∧ t.u.i.size ≤ 1000000) : ∀ x ∈ names l kind, x.size ≤ 1000000 := fun x hx => by
  unfold names at hx
  obtain ⟨t, ht, hx⟩ := List.mem_flatMap.1 hx
  rw [List.mem_append] at hx
  rcases hx with hx | hx
  · split at hx
    · rw [List.mem_singleton] at hx
      rw [hx]; exact (hT t ht).1
    · simp at hx
  · split at hx
    · rw [List.mem_singleton] at hx
      rw [hx]; exact (hT t ht).2
    · simp at hx
set_option maxRecDepth 100000 in
set_option maxHeartbeats 12800000 in
theorem robjects_any (W : World) (A : Option Addr) (n c : Nat) (l : List Tp) (kind : ByteArray) (hn : n = l.length) (hr : TRow W A l) (hl : n ≤ 400) (hT : ∀ t ∈ l, t.i.size ≤ 1000000 ∧ t.u.i.size ≤ 1000000) :
    Calls Tryz.prog 28 #[.slice A n c, .string kind] W (ObjectsPost W (objects l kind)) := by
  have HR := Lib.hid hr
  have HN := Lib.hid hn
  have HTF := Lib.hid hT
  obtain ⟨w4, hw4⟩ : ∃ v, v = W.alloc (.cells #[] 9) := ⟨_, rfl⟩
  have bl4 : Below W.heap.size W w4 := by rw [hw4]; exact al _ _
  have HB14 := Lib.hid bl4
  have HW4 := Lib.hid hw4
  clear hr hn hT hw4 bl4
  go_enter Tryz.func28, Tryz.ntmps28
  go_upto_region 2 with fail
  rw [← HW4.out]
  go_wp2_with fail
  go_loopw [5, 6] (fun vo vi wr => ∃ (k : Nat) (xs : List ByteArray) (Ao : Option Addr) (co no : Nat), k ≤ n ∧ vi = .int .i64 k ∧ xs = names (l.take k) kind ∧ no = (mk ltS xs).length ∧ vo = .slice Ao no co ∧ RowS wr Ao (mk ltS xs) ∧ Below W.heap.size W wr) (fun _ vi _ => n - (intOf vi).toNat)
  case atStart => exact ⟨0, [], _, _, 0, by omega, rfl, rfl, rfl, rfl, fun i hi => by simp [mk] at hi, HB14.out⟩
  case round =>
    obtain ⟨k, xs, Ao, co, no, hk, rfl, hxs, hno, rfl, hro, hbw⟩ := hrel
    have HXS := Lib.hid hxs
    have HBW := Lib.hid hbw
    have HNO := Lib.hid hno
    have HRO := Lib.hid hro
    have HSM := Lib.hid (show ∀ x ∈ xs, x.size ≤ 1000000 by rw [hxs]; exact names_small fun t ht => HTF.out t (List.mem_of_mem_take ht))
    have HXL := Lib.hid (show xs.length ≤ 800 by
      have h1 := names_len kind (l.take k)
      rw [← hxs, List.length_take] at h1
      omega)
    clear hxs hno hro hbw
    by_cases hlt : k < n
    · have h1 : k < l.length := by rw [← HN.out]; exact hlt
      obtain ⟨gl, og, hA, hgl, q0, q1, q2, q3, q4, q5⟩ := (rowT (HR.out.below HBW.out)) k h1
      have hx2 := idx_tp (n := n) (c := c) hA hlt
      have HST := Lib.hid (show names (l.take (k + 1)) kind = xs ++ ((if l[k].k = kind then [l[k].i] else []) ++ if l[k].u.k = kind then [l[k].u.i] else []) by
        rw [HXS.out, List.take_succ_eq_append_getElem h1]
        unfold names
        rw [List.flatMap_append]
        simp only [List.flatMap_cons, List.flatMap_nil, List.append_nil])
      have HTT := Lib.hid (HTF.out _ (List.getElem_mem h1))
      generalize l[k] = s at *
      obtain ⟨ol, hol⟩ : ∃ v, v = og + k * 6 := ⟨_, rfl⟩
      rw [← hol] at q0 q1 q2 q3 q4 q5
      simp only [← hol] at hx2
      have HLT := Lib.hid hlt
      have HC := Lib.hid (fun (w' : World) (hw' : Below wr.heap.size wr w') => And.intro (cell_b q3 hw') (cell_b q4 hw'))
      clear h1 hA hgl hol q2 q5
      have e1 : (s.k.toList == kind.toList) = decide (s.k = kind) := ba_beq _ _
      have e2 : (s.u.k.toList == kind.toList) = decide (s.u.k = kind) := ba_beq _ _
      by_cases hd1 : s.k = kind
      · rw [decide_eq_true hd1] at e1
        rw [if_pos hd1] at HST
        have hput := rputs_mk wr Ao no co xs s.i HNO.out HRO.out (by have := HXL.out; omega) HTT.out.1 HSM.out
        unfold ObjectsPost at hput
        clear hd1 q3 q4
        go_wp2_with fail
        (with_reducible refine hput.mono ?_)
        clear hput q0 q1
        rintro e w2 ⟨A1, c1, n1, hn1, rfl, hr1, hb1⟩
        obtain ⟨q3, q4⟩ := HC.out w2 hb1
        have HB2 := Lib.hid (HBW.out.trans (hb1.mono HBW.out.size))
        by_cases hd2 : s.u.k = kind
        · rw [decide_eq_true hd2] at e2
          rw [if_pos hd2] at HST
          have hput := rputs_mk w2 A1 n1 c1 (xs ++ [s.i]) s.u.i hn1 hr1 (by have := HXL.out; simp; omega) HTT.out.2 (fun x hx => by
            rw [List.mem_append, List.mem_singleton] at hx
            rcases hx with hx | rfl
            · exact HSM.out x hx
            · exact HTT.out.1)
          unfold ObjectsPost at hput
          clear hd2 hn1 hr1 hb1
          go_wp2_with fail
          (with_reducible refine hput.mono ?_)
          clear hput q3 q4
          rintro e w3 ⟨A2, c2, n2, hn2, rfl, hr2, hb2⟩
          have HB3 := Lib.hid (HB2.out.trans (hb2.mono HB2.out.size))
          have HF := Lib.hid (And.intro hn2 hr2)
          clear hn2 hr2 hb2
          go_wp2_with fail
          go_roundw
          case rel => exact ⟨k + 1, xs ++ [s.i] ++ [s.u.i], A2, c2, n2, by have := HLT.out; omega, by go_num, by rw [HST.out]; simp, HF.out.1, rfl, HF.out.2, HB3.out⟩
          case measure => have := HLT.out; simp [intOf]; omega
        · rw [decide_eq_false hd2] at e2
          rw [if_neg hd2] at HST
          have HF := Lib.hid (And.intro hn1 hr1)
          clear hd2 hn1 hr1 hb1
          go_wp2_with fail
          go_roundw
          case rel => exact ⟨k + 1, xs ++ [s.i], A1, c1, n1, by have := HLT.out; omega, by go_num, by rw [HST.out]; simp, HF.out.1, rfl, HF.out.2, HB2.out⟩
          case measure => have := HLT.out; simp [intOf]; omega
      · rw [decide_eq_false hd1] at e1
        rw [if_neg hd1] at HST
        clear hd1
        by_cases hd2 : s.u.k = kind
        · rw [decide_eq_true hd2] at e2
          rw [if_pos hd2] at HST
          have hput := rputs_mk wr Ao no co xs s.u.i HNO.out HRO.out (by have := HXL.out; omega) HTT.out.2 HSM.out
          unfold ObjectsPost at hput
          clear hd2
          go_wp2_with fail
          (with_reducible refine hput.mono ?_)
          clear hput q0 q1 q3 q4
          rintro e w3 ⟨A2, c2, n2, hn2, rfl, hr2, hb2⟩
          have HB3 := Lib.hid (HBW.out.trans (hb2.mono HBW.out.size))
          have HF := Lib.hid (And.intro hn2 hr2)
          clear hn2 hr2 hb2
          go_wp2_with fail
          go_roundw
          case rel => exact ⟨k + 1, xs ++ [s.u.i], A2, c2, n2, by have := HLT.out; omega, by go_num, by rw [HST.out]; simp, HF.out.1, rfl, HF.out.2, HB3.out⟩
          case measure => have := HLT.out; simp [intOf]; omega
        · rw [decide_eq_false hd2] at e2
          rw [if_neg hd2] at HST
          clear hd2
          go_wp2_with fail
          go_roundw
          case rel => exact ⟨k + 1, xs, Ao, co, no, by have := HLT.out; omega, by go_num, by rw [HST.out]; simp, HNO.out, rfl, HRO.out, HBW.out⟩
          case measure => have := HLT.out; simp [intOf]; omega
    · have HF := Lib.hid (show ObjectsPost W (objects l kind) (.returned (.slice Ao no co)) wr by
        have hk' : k = n := by omega
        have hxs := HXS.out
        rw [hk', List.take_of_length_le (by rw [HN.out]; exact Nat.le_refl _)] at hxs
        unfold objects
        rw [← hxs]
        exact ⟨Ao, co, no, HNO.out, rfl, HRO.out, HBW.out⟩)
      go_wp2_with fail
      go_ret
      exact HF.out
end Go.Proofs.YtilcnhdfdgmekaaGreat.FactsRefB
