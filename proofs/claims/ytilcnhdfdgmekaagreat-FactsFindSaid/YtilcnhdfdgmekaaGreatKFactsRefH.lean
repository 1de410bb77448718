/- The document's people. -/
import Derived.Test.YtilcnhdfdgmekaaGreatKFactsRefB
namespace Go.Proofs.YtilcnhdfdgmekaaGreat.FactsRefH
open Go.RowKit Base KeyPlain TuplePlain TupleRef TupleSpec TupleCut FMap FactsPlain FactsMem FactsHas FactsPut FactsDrop FactsNew FactsFind FactsLess FactsObj FactsUsersOf FactsNames FactsOrder FactsRefS FactsFew FactsIs FactsAwake TurnB RowN FactsLawP FactsRefP FactsRefN FactsRefU FactsRefF FactsRefG FactsRefO FactsRefB

theorem rparts_any (u : Us) (w : World) :
    Calls Tryz.prog 49 #[.agg (uc u)] w fun e w' => ∃ A c, e = .returned (.slice A 3 c) ∧ Row w' w'.heap.size A ((Us.parts u).map .string) ∧ Below w.heap.size w w' := by
  obtain ⟨k, i, r⟩ := u
  have hb := (al w (.cells #[.string k, .string i, .string r] 30))
  have hb2 := Below.step hb (al _ (.cells #[.string k, .string i, .string r] 9))
  have hr := (row_of_block (heap_alloc_new (w.alloc (.cells #[.string k, .string i, .string r] 30)) (.cells #[.string k, .string i, .string r] 9))).more (B' := ((w.alloc (.cells #[.string k, .string i, .string r] 30)).alloc (.cells #[.string k, .string i, .string r] 9)).heap.size) (by simp)
  have HF := Lib.hid (show ∃ A c, (.returned (.slice (some ⟨(w.alloc (.cells #[.string k, .string i, .string r] 30)).heap.size, 0, none⟩) 3 3) : Ending) = .returned (.slice A 3 c) ∧ Row ((w.alloc (.cells #[.string k, .string i, .string r] 30)).alloc (.cells #[.string k, .string i, .string r] 9)) ((w.alloc (.cells #[.string k, .string i, .string r] 30)).alloc (.cells #[.string k, .string i, .string r] 9)).heap.size A ((Us.parts ⟨k, i, r⟩).map .string) ∧ Below w.heap.size w ((w.alloc (.cells #[.string k, .string i, .string r] 30)).alloc (.cells #[.string k, .string i, .string r] 9)) from ⟨_, _, rfl, hr, hb2⟩)
  clear hb hb2 hr
  unfold uc
  go_enter Tryz.func49, Tryz.ntmps49
  go_wp2_with fail
  go_ret
  exact (by simpa using HF.out)
theorem rless_u (A B : Option Addr) (c d : Nat) (a b : Us) (w : World) (hr : Row w w.heap.size A ((Us.parts a).map .string)) (hq : Row w w.heap.size B ((Us.parts b).map .string)) (ha : UsF a) (hb : UsF b) :
    Calls Tryz.prog 48 #[.slice A 3 c, .slice B 3 d] w fun e w' => e = .returned (.bool (ltU a b)) ∧ Below w.heap.size w w' := by
  have f : ∀ x : Us, UsF x → ∀ p ∈ Us.parts x, p.size ≤ maxLen := fun x hx p hp => by
    obtain ⟨h1, h2, h3⟩ := hx
    simp only [Us.parts, List.mem_cons, List.not_mem_nil, or_false] at hp
    rcases hp with rfl | rfl | rfl <;> simp [maxLen] <;> omega
  exact (KeyRead.refLess_q A B c d (Us.parts a) (Us.parts b) w hr hq (by simp [Us.parts, maxLen]) (by simp [Us.parts, maxLen]) (f a ha) (f b hb)).mono fun e w' ⟨he, n, hw⟩ => ⟨he, by rw [hw]; exact Base.below_drewN _ _ _⟩
def PeS (b g o : Nat) (u s : Us) (w : World) : Prop := (w.cell? ⟨b, 0, none⟩ = some (.string u.k) ∧ w.cell? ⟨b, 1, none⟩ = some (.string u.i) ∧ w.cell? ⟨b, 2, none⟩ = some (.string u.r)) ∧ w.cell? ⟨g, o, none⟩ = some (.string s.k) ∧ w.cell? ⟨g, o + 1, none⟩ = some (.string s.i) ∧ w.cell? ⟨g, o + 2, none⟩ = some (.string s.r)
theorem PeS.below {b g o : Nat} {u s : Us} {w w' : World} (h : PeS b g o u s w) (hb : Below w.heap.size w w') : PeS b g o u s w' :=
  ⟨⟨cell_b h.1.1 hb, cell_b h.1.2.1 hb, cell_b h.1.2.2 hb⟩, cell_b h.2.1 hb, cell_b h.2.2.1 hb, cell_b h.2.2.2 hb⟩
theorem puu_have {l : List Us} {s : Us} (h : s ∈ l) : put ltU l s = l := by unfold put; rw [if_pos h]
theorem puu_new {l : List Us} {s : Us} (h : s ∉ l) : put ltU l s = ins ltU s l := by unfold put; rw [if_neg h]
set_option maxRecDepth 100000 in
set_option maxHeartbeats 25600000 in
theorem rpeople_any (W : World) (A : Option Addr) (n c : Nat) (l : List Tp) (hn : n = l.length) (hr : TRow W A l) (hl : n ≤ 400) (hT : ∀ t ∈ l, UsF t.u) :
    Calls Tryz.prog 30 #[.slice A n c] W (UsersPost W (people l)) := by
  have HR := Lib.hid hr
  have HN := Lib.hid hn
  have HTF := Lib.hid hT
  obtain ⟨w4, hw4⟩ : ∃ v, v = W.alloc (.cells #[] 30) := ⟨_, rfl⟩
  have bl4 : Below W.heap.size W w4 := by rw [hw4]; exact al _ _
  have HB14 := Lib.hid bl4
  have HW4 := Lib.hid hw4
  clear hr hn hT hw4 bl4
  go_enter Tryz.func30, Tryz.ntmps30
  go_upto_region 2 with fail
  rw [← HW4.out]
  go_wp2_with fail
  go_loopw [3, 4] (fun vo vi wr => ∃ (k : Nat) (xs : List Us) (Ao : Option Addr) (co no : Nat), k ≤ n ∧ vi = .int .i64 k ∧ xs = (l.take k).map (·.u) ∧ no = (mk ltU xs).length ∧ vo = .slice Ao no co ∧ URow wr Ao (mk ltU xs) ∧ Below W.heap.size W wr) (fun _ vi _ => n - (intOf vi).toNat)
  case atStart => exact ⟨0, [], _, _, 0, by omega, rfl, rfl, rfl, rfl, fun i hi => by simp [mk] at hi, HB14.out⟩
  case round =>
    obtain ⟨k, xs, Ao, co, no, hk, rfl, hxs, hno, rfl, hro, hbw⟩ := hrel
    obtain ⟨os, hos⟩ : ∃ v, mk ltU xs = v := ⟨_, rfl⟩
    rw [hos] at hno hro
    have HXS := Lib.hid hxs
    have HOS := Lib.hid hos
    have HBW := Lib.hid hbw
    have HNO := Lib.hid hno
    have HRO := Lib.hid hro
    have HOL := Lib.hid (show no ≤ 400 by
      have h1 := FactsPlain.mk_len (lt := ltU) xs
      have h2 : xs.length ≤ k := by rw [hxs, List.length_map, List.length_take]; omega
      rw [hos, ← hno] at h1
      omega)
    have HUF := Lib.hid (show ∀ v ∈ os, UsF v from fun v hv => by
      rw [← hos] at hv
      have h1 := (mk_mem (lt := ltU)).1 hv
      rw [hxs] at h1
      obtain ⟨t, ht, rfl⟩ := List.mem_map.1 h1
      exact HTF.out t (List.mem_of_mem_take ht))
    clear hxs hno hro hbw hos
    by_cases hlt : k < n
    · have h1 : k < l.length := by rw [← HN.out]; exact hlt
      obtain ⟨gl, og, hA, hgl, q0, q1, q2, q3, q4, q5⟩ := (rowT (HR.out.below HBW.out)) k h1
      have hx2 := idx_tp (n := n) (c := c) hA hlt
      have HST := Lib.hid (show xs ++ [l[k].u] = (l.take (k + 1)).map (·.u) by rw [HXS.out, List.take_succ_eq_append_getElem h1, List.map_append]; rfl)
      have HUU := Lib.hid (HTF.out _ (List.getElem_mem h1))
      generalize l[k] = s0 at *
      obtain ⟨ol, hol⟩ : ∃ v, v = og + k * 6 := ⟨_, rfl⟩
      rw [← hol] at q0 q1 q2 q3 q4 q5
      simp only [← hol] at hx2
      obtain ⟨u, hu⟩ : ∃ v, v = s0.u := ⟨_, rfl⟩
      rw [← hu] at q3 q4 q5 HST HUU
      have HLT := Lib.hid hlt
      have HMK := Lib.hid (show mk ltU (xs ++ [u]) = put ltU os u by rw [mk_snoc, HOS.out])
      obtain ⟨w8, hw8⟩ : ∃ v, v = wr.alloc (.cells (uc u) 30) := ⟨_, rfl⟩
      obtain ⟨b8, hb8⟩ : ∃ v, v = wr.heap.size := ⟨_, rfl⟩
      have bl8 : Below wr.heap.size wr w8 := by rw [hw8]; exact al _ _
      have a8 : w8.heap[b8]? = some (.cells (uc u) 30 (0, 0)) := by rw [hw8, hb8]; exact heap_alloc_new wr _
      obtain ⟨w9, hw9⟩ : ∃ v, v = w8.alloc (.cells #[] 30) := ⟨_, rfl⟩
      obtain ⟨lo, hlo⟩ : ∃ v, v = w8.heap.size := ⟨_, rfl⟩
      have s8 : b8 + 1 = lo := by rw [hlo, hw8, hb8]; exact (Array.size_push ..).symm
      have bl9 : Below w8.heap.size w8 w9 := by rw [hw9]; exact al _ _
      have ho9 : w9.ownsRow lo 30 3 (.slice (some ⟨lo, 0, none⟩) 0 0) 0 (([] : List Us).flatMap encU) := by rw [hw9, hlo]; exact own_newU w8
      have b89 : Below wr.heap.size wr w9 := Below.step bl8 bl9
      have hwl : wr.heap.size ≤ lo := by rw [← hb8]; omega
      have HBU := Lib.hid (fun (w' : World) (hw' : Below lo w9 w') => three_at ((hw'.block b8 (by omega)).trans ((bl9.block b8 (heap_lt a8)).trans a8)))
      have HRU := Lib.hid (fun (w' : World) (hw' : Below lo w9 w') => FactsRefS.URow.below HRO.out (b89.trans (hw'.mono hwl)))
      have HBO := Lib.hid (fun (w' : World) (hw' : Below lo w9 w') => HBW.out.trans ((b89.trans (hw'.mono hwl)).mono HBW.out.size))
      have HGL := Lib.hid (fun (q : Nat) (hq : q < os.length) (g o : Nat) (hA : Ao = some ⟨g, o, none⟩) => (show g < lo by
        obtain ⟨g', o', hA', hg', _⟩ := HRO.out q hq
        rw [hA] at hA'
        injection hA' with hA'
        injection hA' with e1
        rw [e1]
        exact Nat.lt_of_lt_of_le hg' hwl))
      have HO9 := Lib.hid ho9
      have HS9 := Lib.hid (show lo ≤ w9.heap.size by rw [hlo]; exact bl9.size)
      have HB8 := Lib.hid hb8
      have HLO := Lib.hid hlo
      have HS8 := Lib.hid s8
      have HW9 := Lib.hid hw9
      unfold uc at hw8
      have HW8 := Lib.hid hw8
      clear h1 hA hgl hol hu hw8 hb8 bl8 a8 hw9 hlo s8 bl9 ho9 b89 hwl q0 q1 q2
      go_upto_region 7 with fail
      rw [← HW8.out, ← HB8.out]
      try rw [HS8.out]
      try rw [← HLO.out]
      rw [← HW9.out]
      clear q3 q4 q5 hx2
      have hol := HOL.out
      go_wp2_with fail
      go_loopw [6, 7, 8, 9] (fun vh vn vd vq wq => ∃ (q : Nat) (ns : List Us) (h d : Bool) (An : Option Addr) (cn nn : Nat), q ≤ no ∧ vq = .int .i64 q ∧ vh = .bool h ∧ h = decide (u ∈ os.take q) ∧ vd = .bool d ∧ (os.take q).foldl (insF ltU u) ([], false) = (ns, d) ∧ nn = ns.length ∧ vn = .slice An nn cn ∧ wq.ownsRow lo 30 3 (.slice An nn cn) nn (ns.flatMap encU) ∧ Below lo w9 wq ∧ lo ≤ wq.heap.size) (fun _ _ _ vq _ => no - (intOf vq).toNat)
      case atStart => exact ⟨0, [], false, false, _, _, 0, by omega, rfl, rfl, by simp, rfl, rfl, rfl, rfl, HO9.out, Below.refl _ _, HS9.out⟩
      case round =>
        obtain ⟨q, ns, h, d, An, cn, nn, hq, rfl, rfl, hh, rfl, hfo, hnn, rfl, hon, hbq, hsz⟩ := hrel
        have HFO := Lib.hid hfo
        have HNN := Lib.hid hnn
        have HON := Lib.hid hon
        have HBQ := Lib.hid hbq
        have HSZ := Lib.hid hsz
        have HNL := Lib.hid (show nn ≤ 1000 by
          have h1 := (insF_len (lt := ltU) u (os.take q) ([], false)).1
          rw [hfo, ← hnn] at h1
          simp only [List.length_nil, List.length_take] at h1
          have := HNO.out
          have := HOL.out
          omega)
        by_cases hql : q < no
        · have h2 : q < os.length := by rw [← HNO.out]; exact hql
          obtain ⟨p0, p1, p2⟩ := HBU.out wr hbq
          obtain ⟨gu, ou, hAo, hgu, r0, r1, r2⟩ := rowU (HRU.out wr hbq) q h2
          have hx3 := FactsObj.idx_us (n := no) (c := co) hAo hql
          have HGLO := Lib.hid (HGL.out q h2 gu ou hAo)
          have HSTEP := Lib.hid (insF_take (lt := ltU) u os q h2)
          have HHS := Lib.hid (show decide (u ∈ os.take (q + 1)) = (h || decide (os[q] = u)) by
            rw [hh, List.take_succ_eq_append_getElem h2, ← Bool.decide_or, decide_eq_decide, List.mem_append, List.mem_singleton]
            exact or_congr Iff.rfl eq_comm)
          have HSU := Lib.hid (HUF.out _ (List.getElem_mem h2))
          generalize os[q] = s at *
          obtain ⟨ol2, hol2⟩ : ∃ v, v = ou + q * 3 := ⟨_, rfl⟩
          rw [← hol2] at r0 r1 r2
          simp only [← hol2] at hx3
          have hue := fun w => TupleEq.us_eq s u w
          unfold uc at hue
          obtain ⟨e, hee⟩ : ∃ v, v = decide (s = u) := ⟨_, rfl⟩
          rw [← hee] at HHS
          simp only [← hee] at hue
          have HQL := Lib.hid hql
          have HPU := Lib.hid (fun w => rparts_any u w)
          have HPS := Lib.hid (fun w => rparts_any s w)
          clear h2 hAo hgu hol2 hee hh hfo hnn hon hbq hsz
          cases h <;> cases e
          all_goals
            go_wp2_with fail
            go_quiet (fail)
            obtain ⟨wx, hwx⟩ : ∃ v, v = wr.drewN nq := ⟨_, rfl⟩
            rw [← hwx]
            have bwx : Below wr.heap.size wr wx := by rw [hwx]; exact Base.below_drewN _ _ _
            have HOX := Lib.hid (own_same (w' := wx) HON.out fun j hj => bwx.block j (HON.out.lt j hj).2)
            have HBX := Lib.hid (HBQ.out.trans (bwx.mono HSZ.out))
            have HSX := Lib.hid (Nat.le_trans HSZ.out bwx.size)
            replace p0 := cell_b p0 bwx
            replace p1 := cell_b p1 bwx
            replace p2 := cell_b p2 bwx
            replace r0 := cell_b r0 bwx
            replace r1 := cell_b r1 bwx
            replace r2 := cell_b r2 bwx
            clear hwx bwx hue
            cases d with
            | true =>
              go_wp2_with fail
              go_quiet (fail)
              obtain ⟨A2, c2', v2, hrun2, ho2, hbv2⟩ := app_u (w := wx.drewN nq) HOX.out s (by have := HNL.out; omega) HSX.out 47
              have HS := Lib.hid (show (os.take (q + 1)).foldl (insF ltU u) ([], false) = (ns ++ [s], true) by rw [HSTEP.out, HFO.out]; simp [insF])
              have HO2 := Lib.hid (show v2.ownsRow lo 30 3 (.slice A2 (nn + 1) c2') (nn + 1) ((ns ++ [s]).flatMap encU) by simpa using ho2)
              have HBV := Lib.hid (show Below lo w9 v2 from HBX.out.trans ((Base.below_drewN _ _ _).trans hbv2))
              have HSV := Lib.hid (show lo ≤ v2.heap.size from Nat.le_trans HSX.out (show wx.heap.size ≤ v2.heap.size from hbv2.size))
              clear ho2 hbv2 p0 p1 p2
              go_wp2_with (at_builtin; first | refine wpList_append_run rfl (.tmp 54) (.tmp 59) 47 47 rfl rfl rfl hrun2 ?_)
              go_roundw
              case rel => exact ⟨q + 1, ns ++ [s], _, true, A2, c2', nn + 1, by have := HQL.out; omega, by go_num, rfl, by rw [HHS.out]; rfl, rfl, HS.out, by rw [HNN.out]; simp, rfl, HO2.out, HBV.out, HSV.out⟩
              case measure => have := HQL.out; simp [intOf]; omega
            | false =>
              go_wp2_with fail
              refine wp_region_any (by kernel_rfl) ?_
              change wpAny _ _ _ _ _ _ _ (World.drew _)
              obtain ⟨u0, hu0⟩ : ∃ v, v = World.drew wx := ⟨_, rfl⟩
              rw [← hu0]
              have hs0 : PeS b8 gu ol2 u s u0 := by rw [hu0]; exact ⟨⟨p0, p1, p2⟩, r0, r1, r2⟩
              have hb0 : Below wx.heap.size wx u0 := by rw [hu0]; exact (Below.refl _ _).drew
              clear hu0 p0 p1 p2 r0 r1 r2
              refine Held.any_of_G (S := (fun w' : World => PeS b8 gu ol2 u s w')) (z := 11) _ _ _ _ ?_
              refine Held.G_take (i := 0) (d := 38) (v := ?_) [0, 1, 2, 3, 4, 5, 6, 7, 8, 9, 10, 11] rfl rfl (by kernel_rfl) (by kernel_rfl) (by kernel_rfl) (by kernel_rfl) (fun _ _ _ h => h) (Or.inl ⟨by rfl, ?_⟩) hs0 ?_
              rotate_left 1
              · intro w hSw; clear hSw; go_simp <;> with_reducible rfl
              simp only [Act.put, List.setIfInBounds_toArray, List.set_cons_zero, List.set_cons_succ]
              refine Held.G_take (i := 1) (d := 39) (v := ?_) [1, 2, 3, 4, 5, 6, 7, 8, 9, 10, 11] rfl rfl (by kernel_rfl) (by kernel_rfl) (by kernel_rfl) (by kernel_rfl) (fun _ _ _ h => h) (Or.inl ⟨by rfl, ?_⟩) hs0 ?_
              rotate_left 1
              · intro w hSw; clear hSw; go_simp <;> with_reducible rfl
              simp only [Act.put, List.setIfInBounds_toArray, List.set_cons_zero, List.set_cons_succ]
              refine Held.G_take (i := 2) (d := 40) (v := ?_) [2, 3, 4, 5, 6, 7, 8, 9, 10, 11] rfl rfl (by kernel_rfl) (by kernel_rfl) (by kernel_rfl) (by kernel_rfl) (fun _ _ _ h => h) (Or.inl ⟨by rfl, ?_⟩) hs0 ?_
              rotate_left 1
              · intro w hSw; clear hSw; go_simp <;> with_reducible rfl
              simp only [Act.put, List.setIfInBounds_toArray, List.set_cons_zero, List.set_cons_succ]
              refine Held.G_take (i := 3) (d := 41) (v := ?_) [3, 4, 9, 10, 11] rfl rfl (by kernel_rfl) (by kernel_rfl) (by kernel_rfl) (by kernel_rfl) (fun _ _ _ h => h) (Or.inl ⟨by rfl, ?_⟩) hs0 ?_
              rotate_left 1
              · intro w hSw; obtain ⟨⟨p0, p1, p2⟩, r0, r1, r2⟩ := hSw; go_simp <;> with_reducible rfl
              simp only [Act.put, List.setIfInBounds_toArray, List.set_cons_zero, List.set_cons_succ]
              refine Held.G_take (i := 5) (d := 43) (v := ?_) [5, 7, 8, 9, 10, 11] rfl rfl (by kernel_rfl) (by kernel_rfl) (by kernel_rfl) (by kernel_rfl) (fun _ _ _ h => h) (Or.inl ⟨by rfl, ?_⟩) hs0 ?_
              rotate_left 1
              · intro w hSw; clear hSw; go_simp <;> with_reducible rfl
              simp only [Act.put, List.setIfInBounds_toArray, List.set_cons_zero, List.set_cons_succ]
              refine Held.G_take (i := 6) (d := 44) (v := ?_) [6, 7, 8, 9, 10, 11] rfl rfl (by kernel_rfl) (by kernel_rfl) (by kernel_rfl) (by kernel_rfl) (fun _ _ _ h => h) (Or.inl ⟨by rfl, ?_⟩) hs0 ?_
              rotate_left 1
              · intro w hSw; clear hSw; go_simp <;> with_reducible rfl
              simp only [Act.put, List.setIfInBounds_toArray, List.set_cons_zero, List.set_cons_succ]
              refine Held.G_take (i := 7) (d := 45) (v := ?_) [7, 8, 9, 10, 11] rfl rfl (by kernel_rfl) (by kernel_rfl) (by kernel_rfl) (by kernel_rfl) (fun _ _ _ h => h) (Or.inl ⟨by rfl, ?_⟩) hs0 ?_
              rotate_left 1
              · intro w hSw; clear hSw; go_simp <;> with_reducible rfl
              simp only [Act.put, List.setIfInBounds_toArray, List.set_cons_zero, List.set_cons_succ]
              refine Held.G_take (i := 8) (d := 46) (v := ?_) [8, 9, 10, 11] rfl rfl (by kernel_rfl) (by kernel_rfl) (by kernel_rfl) (by kernel_rfl) (fun _ _ _ h => h) (Or.inl ⟨by rfl, ?_⟩) hs0 ?_
              rotate_left 1
              · intro w hSw; obtain ⟨⟨p0, p1, p2⟩, r0, r1, r2⟩ := hSw; go_simp <;> with_reducible rfl
              simp only [Act.put, List.setIfInBounds_toArray, List.set_cons_zero, List.set_cons_succ]
              refine Held.G_ready (rs := [4]) (by decide +kernel) (by simp) ?_
              refine Held.G_cons rfl (fun KK hK => ?_) Held.G_nil
              go_simp
              have hh := HPU.out u0
              dsimp only [uc] at hh
              (with_reducible refine hh.mono ?_)
              clear hh
              rintro e u1 ⟨B1, c1, rfl, hrow1, hbu⟩
              have hs1 := PeS.below hs0 hbu
              have hb1 := Below.step hb0 hbu
              clear hs0 hb0 hbu
              go_simp
              refine hK _ _ ?_
              clear hK KK
              refine ⟨hs1, ?_⟩
              refine Held.G_ready (rs := [9]) (by decide +kernel) (by simp) ?_
              refine Held.G_cons rfl (fun KK hK => ?_) Held.G_nil
              go_simp
              have hh := HPS.out u1
              dsimp only [uc] at hh
              (with_reducible refine hh.mono ?_)
              clear hh
              rintro e u2 ⟨B2, c2, rfl, hrow2, hbu⟩
              have hs2 := PeS.below hs1 hbu
              have hb2 := Below.step hb1 hbu
              have hrow1' := hrow1.belowSize hbu
              clear hs1 hb1 hbu hrow1
              go_simp
              refine hK _ _ ?_
              clear hK KK
              refine ⟨hs2, ?_⟩
              refine Held.G_ready (rs := [10]) (by decide +kernel) (by simp) ?_
              refine Held.G_cons rfl (fun KK hK => ?_) Held.G_nil
              go_simp
              have hh := rless_u B1 B2 c1 c2 u s u2 hrow1' hrow2 HUU.out HSU.out
              (with_reducible refine hh.mono ?_)
              clear hh hrow1' hrow2
              rintro e u3 ⟨rfl, hbu⟩
              have hs3 := PeS.below hs2 hbu
              have hb3 := Below.step hb2 hbu
              clear hs2 hb2 hbu
              go_simp
              refine hK _ _ ?_
              clear hK KK
              refine ⟨hs3, ?_⟩
              refine Held.G_ready (rs := [11]) (by decide +kernel) (by simp) ?_
              refine Held.G_last rfl (fun KK hK => ?_) Held.G_nil
              go_simp
              refine hK _ _ ?_
              clear hK KK
              refine Held.G_done (by kernel_rfl) ?_ _
              obtain ⟨⟨p0, p1, p2⟩, r0, r1, r2⟩ := hs3
              have hob := own_same (w' := u3) HOX.out fun j hj => hb3.block j (HOX.out.lt j hj).2
              have hszb : lo ≤ u3.heap.size := Nat.le_trans HSX.out hb3.size
              have HB3 := Lib.hid (show Below lo w9 u3 from HBX.out.trans (hb3.mono HSX.out))
              clear hb3
              cases hlt2 : ltU u s with
              | true =>
                obtain ⟨A1, c1', v1, hrun1, ho1, hbv1⟩ := app_u hob u (by have := HNL.out; omega) hszb 47
                have hszv : lo ≤ v1.heap.size := Nat.le_trans hszb hbv1.size
                obtain ⟨A2, c2', v2, hrun2, ho2, hbv2⟩ := app_u ho1 s (by have := HNL.out; omega) hszv 47
                have hv1 : ∀ y, v1.cell? ⟨gu, y, none⟩ = u3.cell? ⟨gu, y, none⟩ := fun y => World.cell?_of_block (w := u3) (hbv1.block gu HGLO.out)
                have z0 := (hv1 _).trans r0
                have z1 := (hv1 _).trans r1
                have z2 := (hv1 _).trans r2
                have HS := Lib.hid (show (os.take (q + 1)).foldl (insF ltU u) ([], false) = (ns ++ [u, s], true) by rw [HSTEP.out, HFO.out]; simp [insF, hlt2])
                have HO2 := Lib.hid (show v2.ownsRow lo 30 3 (.slice A2 (nn + 1 + 1) c2') (nn + 1 + 1) ((ns ++ [u, s]).flatMap encU) by simpa using ho2)
                have HBV := Lib.hid (show Below lo w9 v2 from HB3.out.trans (hbv1.trans hbv2))
                have HSV := Lib.hid (Nat.le_trans hszv hbv2.size)
                clear hlt2 ho1 hbv1 ho2 hbv2 hv1 hob r0 r1 r2
                go_wp2_with (at_builtin; first | refine wpList_append_run rfl (.tmp 50) (.tmp 52) 47 47 rfl rfl rfl hrun1 ?_ | refine wpList_append_run rfl (.tmp 54) (.tmp 59) 47 47 rfl rfl rfl hrun2 ?_)
                go_roundw
                case rel => exact ⟨q + 1, ns ++ [u, s], _, true, A2, c2', nn + 1 + 1, by have := HQL.out; omega, by go_num, rfl, by rw [HHS.out]; rfl, rfl, HS.out, by rw [HNN.out]; simp, rfl, HO2.out, HBV.out, HSV.out⟩
                case measure => have := HQL.out; simp [intOf]; omega
              | false =>
                obtain ⟨A2, c2', v2, hrun2, ho2, hbv2⟩ := app_u hob s (by have := HNL.out; omega) hszb 47
                have HS := Lib.hid (show (os.take (q + 1)).foldl (insF ltU u) ([], false) = (ns ++ [s], false) by rw [HSTEP.out, HFO.out]; simp [insF, hlt2])
                have HO2 := Lib.hid (show v2.ownsRow lo 30 3 (.slice A2 (nn + 1) c2') (nn + 1) ((ns ++ [s]).flatMap encU) by simpa using ho2)
                have HBV := Lib.hid (show Below lo w9 v2 from HB3.out.trans hbv2)
                have HSV := Lib.hid (Nat.le_trans hszb hbv2.size)
                clear hlt2 ho2 hbv2 hob p0 p1 p2
                go_wp2_with (at_builtin; first | refine wpList_append_run rfl (.tmp 54) (.tmp 59) 47 47 rfl rfl rfl hrun2 ?_)
                go_roundw
                case rel => exact ⟨q + 1, ns ++ [s], _, false, A2, c2', nn + 1, by have := HQL.out; omega, by go_num, rfl, by rw [HHS.out]; rfl, rfl, HS.out, by rw [HNN.out]; simp, rfl, HO2.out, HBV.out, HSV.out⟩
                case measure => have := HQL.out; simp [intOf]; omega
        · have hq' : q = no := by omega
          have hend := insF_end (lt := ltU) u os []
          rw [hq', List.take_of_length_le (by rw [HNO.out]; exact Nat.le_refl _)] at hfo hh
          rw [hfo] at hend
          simp only [List.nil_append] at hend
          have HEND := Lib.hid hend
          have HIN := Lib.hid hh
          clear hend hfo hh hq' hnn hon hbq hsz
          obtain ⟨p0, p1, p2⟩ := HBU.out wr HBQ.out
          cases h with
          | true =>
            have HPT := Lib.hid (show put ltU os u = os from puu_have (of_decide_eq_true HIN.out.symm))
            cases d with
            | true =>
              have HF := Lib.hid (And.intro (HRU.out wr HBQ.out) (HBO.out wr HBQ.out))
              clear p0 p1 p2
              go_wp2_with fail
              go_roundw
              case rel => exact ⟨k + 1, xs ++ [u], Ao, co, no, by have := HLT.out; omega, by go_num, HST.out, by rw [HMK.out, HPT.out]; exact HNO.out, rfl, by rw [HMK.out, HPT.out]; exact HF.out.1, HF.out.2⟩
              case measure => have := HLT.out; simp [intOf]; omega
            | false =>
              obtain ⟨A2, c2', v2, hrun2, ho2, hbv2⟩ := app_u HON.out u (by have := HNL.out; omega) HSZ.out 47
              have HF := Lib.hid (And.intro (HRU.out v2 (HBQ.out.trans hbv2)) (HBO.out v2 (HBQ.out.trans hbv2)))
              clear ho2 hbv2
              go_wp2_with (at_builtin; first | refine wpList_append_run rfl (.tmp 63) (.tmp 65) 47 47 rfl rfl rfl hrun2 ?_)
              go_roundw
              case rel => exact ⟨k + 1, xs ++ [u], Ao, co, no, by have := HLT.out; omega, by go_num, HST.out, by rw [HMK.out, HPT.out]; exact HNO.out, rfl, by rw [HMK.out, HPT.out]; exact HF.out.1, HF.out.2⟩
              case measure => have := HLT.out; simp [intOf]; omega
          | false =>
            have HPT := Lib.hid (show put ltU os u = ins ltU u os from puu_new (of_decide_eq_false HIN.out.symm))
            cases d with
            | true =>
              have HF := Lib.hid (show URow wr An (put ltU os u) ∧ Below W.heap.size W wr ∧ nn = (put ltU os u).length from ⟨by rw [HPT.out, ← HEND.out]; exact urow_own HNN.out HON.out, HBO.out wr HBQ.out, by rw [HPT.out, ← HEND.out]; exact HNN.out⟩)
              clear p0 p1 p2
              go_wp2_with fail
              go_roundw
              case rel => exact ⟨k + 1, xs ++ [u], An, cn, nn, by have := HLT.out; omega, by go_num, HST.out, by rw [HMK.out]; exact HF.out.2.2, rfl, by rw [HMK.out]; exact HF.out.1, HF.out.2.1⟩
              case measure => have := HLT.out; simp [intOf]; omega
            | false =>
              obtain ⟨A2, c2', v2, hrun2, ho2, hbv2⟩ := app_u HON.out u (by have := HNL.out; omega) HSZ.out 47
              have HF := Lib.hid (show URow v2 A2 (put ltU os u) ∧ Below W.heap.size W v2 ∧ nn + 1 = (put ltU os u).length from ⟨by rw [HPT.out, ← HEND.out]; exact urow_own (n := nn + 1) (by simp [HNN.out]) (by simpa using ho2), HBO.out v2 (HBQ.out.trans hbv2), by rw [HPT.out, ← HEND.out]; simp [HNN.out]⟩)
              clear ho2 hbv2
              go_wp2_with (at_builtin; first | refine wpList_append_run rfl (.tmp 63) (.tmp 65) 47 47 rfl rfl rfl hrun2 ?_)
              go_roundw
              case rel => exact ⟨k + 1, xs ++ [u], A2, c2', nn + 1, by have := HLT.out; omega, by go_num, HST.out, by rw [HMK.out]; exact HF.out.2.2, rfl, by rw [HMK.out]; exact HF.out.1, HF.out.2.1⟩
              case measure => have := HLT.out; simp [intOf]; omega
    · have HF := Lib.hid (show UsersPost W (people l) (.returned (.slice Ao no co)) wr by
        have hk' : k = n := by omega
        have hxs := HXS.out
        rw [hk', List.take_of_length_le (by rw [HN.out]; exact Nat.le_refl _)] at hxs
        unfold people
        rw [← hxs, HOS.out]
        exact ⟨Ao, co, no, HNO.out, rfl, HRO.out, HBW.out⟩)
      go_wp2_with fail
      go_ret
      exact HF.out
end Go.Proofs.YtilcnhdfdgmekaaGreat.FactsRefH
