/- The document's users of a relation. -/
import Derived.Test.YtilcnhdfdgmekaaGreatKFactsRefN
namespace Go.Proofs.YtilcnhdfdgmekaaGreat.FactsRefU
open Go.RowKit Base KeyPlain TuplePlain TupleRef TupleSpec TupleCut FMap FactsPlain FactsMem FactsHas FactsPut FactsDrop FactsNew FactsFind FactsLess FactsObj FactsUsersOf FactsNames FactsOrder FactsRefS FactsFew FactsIs FactsAwake TurnB RowN FactsLawP FactsRefP FactsRefN

theorem app_u {w : World} {base n c : Nat} {A : Option Addr} {xs : List Value} (ho : w.ownsRow base 30 3 (.slice A n c) n xs) (t : Us) (hz : n ≤ 100000) (hb : base ≤ w.heap.size) (ty : TypeId) :
    ∃ A' c' w', (Builtin.append_ #[47, 47] ty #[.slice A n c, .slice (some ⟨w.heap.size, 0, none⟩) 1 1]).run Tryz.prog (w.alloc (.cells #[.string t.k, .string t.i, .string t.r] 30)) = .ok (.slice A' (n + 1) c') w' ∧
      w'.ownsRow base 30 3 (.slice A' (n + 1) c') (n + 1) (xs ++ encU t) ∧ Below base w w' := by
  have b1 := al w (.cells #[.string t.k, .string t.i, .string t.r] 30)
  have ho1 := own_same (w' := w.alloc (.cells #[.string t.k, .string t.i, .string t.r] 30)) ho fun k hk => b1.block k (ho.lt k hk).2
  have hnr : Row (w.alloc (.cells #[.string t.k, .string t.i, .string t.r] 30)) (w.heap.size + 1) (some ⟨w.heap.size, 0, none⟩) (encU t) := row_of_block (heap_alloc_new w _)
  obtain ⟨A', c', w', r, o, g, _⟩ := run_append_n (c2 := 1) (m := 1) ty elem_u (by decide) ho1 hnr rfl (by intro v hv; simp [encU, uc] at hv; rcases hv with rfl | rfl | rfl <;> rfl) (by unfold maxLen; omega) (by omega) (by simp; omega)
  exact ⟨A', c', w', r, o, (b1.mono hb).grown g (by simp; omega) fun k hk => (ho1.lt k hk).1⟩
theorem own_newU (w : World) : (w.alloc (.cells #[] 30)).ownsRow w.heap.size 30 3 (.slice (some ⟨w.heap.size, 0, none⟩) 0 0) 0 (([] : List Us).flatMap encU) := World.ownsRow_made w #[] 0 (Nat.le_refl _) (by simp [maxLen]) rfl
theorem urow_own {w : World} {A : Option Addr} {c n base : Nat} {l : List Us} (hn : n = l.length) (h : w.ownsRow base 30 3 (.slice A n c) n (l.flatMap encU)) : URow w A l := by
  rcases h.2 with ⟨h1, h2⟩ | ⟨g, cap, cur, h1, _, h3, _⟩
  · have : l = [] := List.eq_nil_of_length_eq_zero (by omega)
    subst this
    intro i hi
    simp at hi
  · injection h1 with h1
    subst h1
    exact urow_of (holds_of_own (enc := encU) (k := 3) (by decide) (fun _ => rfl) hn h) (heap_lt h3)
theorem users_len (l : List Tp) (k i r : ByteArray) : (users l k i r).length ≤ l.length := by
  unfold users
  rw [List.length_map]
  exact List.length_filter_le _ _
theorem users_snoc (l : List Tp) (t : Tp) (k i r : ByteArray) : users (l ++ [t]) k i r = users l k i r ++ if decide (t.k = k) && decide (t.i = i) && decide (t.r = r) then [t.u] else [] := by
  unfold users
  rw [List.filter_append, List.map_append]
  congr 1
  cases h : decide (t.k = k) && decide (t.i = i) && decide (t.r = r) <;> simp [h]
theorem str_eq (a b : ByteArray) : (a.toList == b.toList) = decide (a = b) := ba_beq a b
set_option maxRecDepth 100000 in
set_option maxHeartbeats 12800000 in
theorem rusers_any (W : World) (A : Option Addr) (n c : Nat) (l : List Tp) (ki id re : ByteArray) (hn : n = l.length) (hr : TRow W A l) (hl : n ≤ 1000) :
    Calls Tryz.prog 25 #[.slice A n c, .string ki, .string id, .string re] W (UsersPost W (users l ki id re)) := by
  have HR := Lib.hid hr
  have HN := Lib.hid hn
  obtain ⟨w4, hw4⟩ : ∃ v, v = W.alloc (.cells #[] 30) := ⟨_, rfl⟩
  obtain ⟨lo, hlo⟩ : ∃ v, v = W.heap.size := ⟨_, rfl⟩
  have ho4 : w4.ownsRow lo 30 3 (.slice (some ⟨lo, 0, none⟩) 0 0) 0 (([] : List Us).flatMap encU) := by rw [hw4, hlo]; exact own_newU W
  have bl4 : Below W.heap.size W w4 := by rw [hw4]; exact al _ _
  have HO4 := Lib.hid ho4
  have HB14 := Lib.hid bl4
  have HLO := Lib.hid hlo
  have HW4 := Lib.hid hw4
  clear hr hn hw4 hlo ho4 bl4
  go_enter Tryz.func25, Tryz.ntmps25
  go_upto_region 2 with fail
  try rw [← HLO.out]
  rw [← HW4.out]
  go_wp2_with fail
  go_loopw [9, 10] (fun vo vi wr => ∃ (k : Nat) (Ao : Option Addr) (co no : Nat), k ≤ n ∧ vi = .int .i64 k ∧ no = (users (l.take k) ki id re).length ∧ vo = .slice Ao no co ∧ wr.ownsRow lo 30 3 (.slice Ao no co) no ((users (l.take k) ki id re).flatMap encU) ∧ Below W.heap.size W wr) (fun _ vi _ => n - (intOf vi).toNat)
  case atStart => exact ⟨0, _, _, 0, by omega, rfl, rfl, rfl, HO4.out, HB14.out⟩
  case round =>
    obtain ⟨k, Ao, co, no, hk, rfl, hno, rfl, ho, hbw⟩ := hrel
    have HBW := Lib.hid hbw
    have HNO := Lib.hid hno
    have HO := Lib.hid ho
    have HOL := Lib.hid (show no ≤ 1000 by
      have h2 := users_len (l.take k) ki id re
      rw [List.length_take] at h2
      omega)
    by_cases hlt : k < n
    · have h1 : k < l.length := by rw [← HN.out]; exact hlt
      obtain ⟨gl, og, hA, hgl, q0, q1, q2, q3, q4, q5⟩ := (rowT (HR.out.below hbw)) k h1
      have hx2 := idx_tp (n := n) (c := c) hA hlt
      have HST := Lib.hid (show users (l.take (k + 1)) ki id re = users (l.take k) ki id re ++ if decide (l[k].k = ki) && decide (l[k].i = id) && decide (l[k].r = re) then [l[k].u] else [] by
        rw [List.take_succ_eq_append_getElem h1, users_snoc])
      generalize l[k] = s at *
      obtain ⟨ol, hol⟩ : ∃ v, v = og + k * 6 := ⟨_, rfl⟩
      rw [← hol] at q0 q1 q2 q3 q4 q5
      simp only [← hol] at hx2
      have HLT := Lib.hid hlt
      have e1 := str_eq s.k ki
      have e2 := str_eq s.i id
      have e3 := str_eq s.r re
      clear h1 hA hgl hno ho hbw hol
      cases hd1 : decide (s.k = ki) <;> cases hd2 : decide (s.i = id) <;> cases hd3 : decide (s.r = re) <;> rw [hd1] at e1 <;> rw [hd2] at e2 <;> rw [hd3] at e3
      rotate_right
      · have HS := Lib.hid (show users (l.take (k + 1)) ki id re = users (l.take k) ki id re ++ [s.u] by rw [HST.out, hd1, hd2, hd3]; rfl)
        clear hd1 hd2 hd3
        obtain ⟨A2, c2, v2, hrun2, ho2, hbv2⟩ := app_u (w := wr) HO.out s.u (by have := HOL.out; omega) (show lo ≤ wr.heap.size by rw [HLO.out]; exact HBW.out.size) 47
        have HO2 := Lib.hid (show v2.ownsRow lo 30 3 (.slice A2 (no + 1) c2) (no + 1) ((users (l.take k) ki id re ++ [s.u]).flatMap encU) by simpa using ho2)
        have HBV := Lib.hid (show Below W.heap.size W v2 from HBW.out.trans (by rw [← HLO.out]; exact hbv2))
        clear ho2 hbv2
        go_wp2_with (at_builtin; first | refine wpList_append_run rfl (.tmp 43) (.tmp 49) 47 47 rfl rfl rfl hrun2 ?_)
        go_roundw
        case rel => exact ⟨k + 1, A2, c2, no + 1, by have := HLT.out; omega, by go_num, by rw [HS.out, HNO.out]; simp, rfl, by rw [HS.out]; exact HO2.out, HBV.out⟩
        case measure => have := HLT.out; simp [intOf]; omega
      all_goals
        have HS := Lib.hid (show users (l.take (k + 1)) ki id re = users (l.take k) ki id re by rw [HST.out, hd1, hd2, hd3]; simp)
        clear hd1 hd2 hd3
        go_wp2_with fail
        go_roundw
        case rel => exact ⟨k + 1, Ao, co, no, by have := HLT.out; omega, by go_num, by rw [HS.out]; exact HNO.out, rfl, by rw [HS.out]; exact HO.out, HBW.out⟩
        case measure => have := HLT.out; simp [intOf]; omega
    · have HF := Lib.hid (show UsersPost W (users l ki id re) (.returned (.slice Ao no co)) wr by
        have hk' : k = n := by omega
        rw [hk', List.take_of_length_le (by rw [HN.out]; exact Nat.le_refl _)] at hno ho
        exact ⟨Ao, co, no, hno, rfl, urow_own hno ho, hbw⟩)
      clear hno ho hbw
      go_wp2_with fail
      go_ret
      exact HF.out
end Go.Proofs.YtilcnhdfdgmekaaGreat.FactsRefU
