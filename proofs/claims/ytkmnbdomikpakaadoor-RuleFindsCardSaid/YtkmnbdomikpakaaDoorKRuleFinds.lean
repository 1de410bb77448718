/- The walk of RuleFinds. -/
import Derived.Test.YtkmnbdomikpakaaDoorKRuleAwake
namespace Go.Proofs.YtkmnbdomikpakaaDoor.RuleFinds
open Go.RowKit Base KeyPlain TuplePlain TupleRef RulePlain RuleMem RuleRec RuleFew RuleFind RuleCan RuleSpec RuleGl

theorem fewR_short {r : Rl} (h : fewR r = true) : r.e.short 30 = true := by
  simp only [fewR, Bool.and_eq_true] at h
  exact h.1.1
theorem few_short {l : List Kd} (h : few l = true) {k : Kd} (hk : k ∈ l) {r : Rl} (hr : r ∈ k.rules) : r.e.short 30 = true := by
  simp only [few, Bool.and_eq_true] at h
  have h1 := List.all_eq_true.1 h.2 k hk
  simp only [fewK, Bool.and_eq_true] at h1
  exact fewR_short (List.all_eq_true.1 h1.2 r hr)
theorem find_short {l : List Kd} (h : few l = true) (kind rel : ByteArray) : ((find l kind rel).getD zex).short 30 = true := by
  unfold find
  split
  · rfl
  · rename_i k hk
    cases hr : k.rules.find? (fun r => decide (r.rel = rel)) with
    | none => rfl
    | some r => exact few_short h (List.mem_of_find?_eq_some hk) (List.mem_of_find?_eq_some hr)
set_option maxRecDepth 100000 in
set_option maxHeartbeats 25600000 in
theorem finds_any (X : Specs) (A : Option Addr) (c : Nat) (l : List Kd) (kind rel : ByteArray) (W : World) (hG : Gl W) (hL : LayL W W.heap.size A l) (hn : l.length ≤ maxLen) : Calls Tryd.prog 5 #[.slice A l.length c, .string kind, .string rel] W (Law W) := by
  have HL := Lib.hid (fun (w' : World) (hw' : Below W.heap.size W w') => hL.later hw')
  clear hL
  have HGL := Lib.hid (fun (w' : World) (hw' : Below W.heap.size W w') => hG.later hw')
  clear hG
  unfold Law
  go_enter Tryd.func5, Tryd.ntmps5
  have hcall := RuleAwake.awake_any X W (HGL.out W (Below.refl _ _))
  unfold Law at hcall
  go_wp2_with fail
  (with_reducible refine hcall.mono ?_)
  clear hcall
  rintro e w1 ⟨rfl, bb⟩
  have HB1 := Lib.hid bb
  clear bb
  have hcall := RuleFew.refFew_any A c l w1 (HL.out w1 HB1.out) hn
  obtain ⟨fb, hfb⟩ : ∃ v, few l = v := ⟨_, rfl⟩
  rw [hfb] at hcall
  have HF := Lib.hid hfb
  clear hfb
  go_wp2_with fail
  (with_reducible refine hcall.mono ?_)
  clear hcall
  rintro e w2 ⟨rfl, bb⟩
  have HB2 := Lib.hid (HB1.out.trans (bb.mono HB1.out.size))
  clear bb
  cases fb with
  | false =>
    have hcall := RuleAwake.awake_any X w2 (HGL.out w2 HB2.out)
    unfold Law at hcall
    go_wp2_with fail
    (with_reducible refine hcall.mono ?_)
    clear hcall
    rintro e w8 ⟨rfl, bb⟩
    have HB8 := Lib.hid (HB2.out.trans (bb.mono HB2.out.size))
    clear bb
    go_wp2_with fail
    go_ret
    exact ⟨rfl, HB8.out⟩
  | true =>
    by_cases h1 : kind.size ≤ 100
    rotate_left
    · have i1 : (100 : Int) < (kind.size : Int) := by omega
      clear h1
      have hcall := RuleAwake.awake_any X w2 (HGL.out w2 HB2.out)
      unfold Law at hcall
      go_wp2_with fail
      (with_reducible refine hcall.mono ?_)
      clear hcall
      rintro e w8 ⟨rfl, bb⟩
      have HB8 := Lib.hid (HB2.out.trans (bb.mono HB2.out.size))
      clear bb
      go_wp2_with fail
      go_ret
      exact ⟨rfl, HB8.out⟩
    have i1 : ¬ (100 : Int) < (kind.size : Int) := by omega
    by_cases h2 : rel.size ≤ 100
    rotate_left
    · have i2 : (100 : Int) < (rel.size : Int) := by omega
      clear h2
      have hcall := RuleAwake.awake_any X w2 (HGL.out w2 HB2.out)
      unfold Law at hcall
      go_wp2_with fail
      (with_reducible refine hcall.mono ?_)
      clear hcall
      rintro e w8 ⟨rfl, bb⟩
      have HB8 := Lib.hid (HB2.out.trans (bb.mono HB2.out.size))
      clear bb
      go_wp2_with fail
      go_ret
      exact ⟨rfl, HB8.out⟩
    have i2 : ¬ (100 : Int) < (rel.size : Int) := by omega
    have HS := Lib.hid (find_short HF.out kind rel)
    have hcall := X.cFind A c l kind rel w2 HF.out (by omega) (by omega) (HL.out w2 HB2.out)
    clear h1 h2
    unfold FindPost at hcall
    obtain ⟨xe, hxe⟩ : ∃ v, (find l kind rel).getD zex = v := ⟨_, rfl⟩
    obtain ⟨ok, hok⟩ : ∃ v, (find l kind rel).isSome = v := ⟨_, rfl⟩
    rw [hxe] at hcall HS
    rw [hok] at hcall
    have HXE := Lib.hid hxe
    have HOK := Lib.hid hok
    clear hxe hok
    go_wp2_with fail
    (with_reducible refine hcall.mono ?_)
    clear hcall i1 i2
    rintro e w3 ⟨q, hq, rfl, b3⟩
    have HB3 := Lib.hid (HB2.out.trans (b3.mono HB2.out.size))
    clear b3
    obtain ⟨Aq, cq, rfl, _⟩ := id hq.open
    obtain ⟨w4, hw⟩ : ∃ v, v = w3.alloc (.cells #[.string xe.op, .string xe.nm, .string xe.fo, .slice Aq xe.ps.length cq] 34) := ⟨_, rfl⟩
    obtain ⟨g7, hg⟩ : ∃ v, v = w3.heap.size := ⟨_, rfl⟩
    have bb : Below w3.heap.size w3 w4 := by rw [hw]; exact al _ _
    have ag : w4.heap[g7]? = some (.cells #[.string xe.op, .string xe.nm, .string xe.fo, .slice Aq xe.ps.length cq] 34 (0, 0)) := by rw [hw, hg]; exact heap_alloc_new w3 _
    have hlg := (Array.getElem?_eq_some_iff.1 ag).1
    have HC7 := Lib.hid (fun (w' : World) (hw' : Below w4.heap.size w4 w') => four_at ((hw'.block g7 hlg).trans ag))
    have HQ7 := Lib.hid (fun (w' : World) (hw' : Below w4.heap.size w4 w') => hq.later (Below.step bb hw'))
    have HB4 := Lib.hid (HB3.out.trans (bb.mono HB3.out.size))
    have HW := Lib.hid hw
    have HG7 := Lib.hid hg
    clear hw hg ag hlg bb hq
    go_upto_region 4 with fail
    try rw [← HW.out]
    try rw [← HG7.out]
    clear HW
    have hcall := refFind_any A c l kind rel w4 (HL.out w4 HB4.out) hn
    unfold FindPost at hcall
    rw [HXE.out, HOK.out] at hcall
    go_wp2_with fail
    (with_reducible refine hcall.mono ?_)
    clear hcall
    rintro e w5 ⟨q', hq', rfl, b5⟩
    have HB5 := Lib.hid (HB4.out.trans (b5.mono HB4.out.size))
    have HB45 := Lib.hid b5
    clear b5
    obtain ⟨Aq', cq', rfl, _⟩ := id hq'.open
    obtain ⟨w6, hw⟩ : ∃ v, v = w5.alloc (.cells #[.string xe.op, .string xe.nm, .string xe.fo, .slice Aq' xe.ps.length cq'] 34) := ⟨_, rfl⟩
    obtain ⟨g9, hg⟩ : ∃ v, v = w5.heap.size := ⟨_, rfl⟩
    have bb : Below w5.heap.size w5 w6 := by rw [hw]; exact al _ _
    have ag : w6.heap[g9]? = some (.cells #[.string xe.op, .string xe.nm, .string xe.fo, .slice Aq' xe.ps.length cq'] 34 (0, 0)) := by rw [hw, hg]; exact heap_alloc_new w5 _
    have hlg := (Array.getElem?_eq_some_iff.1 ag).1
    have HC9 := Lib.hid (fun (w' : World) (hw' : Below w6.heap.size w6 w') => four_at ((hw'.block g9 hlg).trans ag))
    have HQ9 := Lib.hid (fun (w' : World) (hw' : Below w6.heap.size w6 w') => hq'.later (Below.step bb hw'))
    have HB46 := Lib.hid (Below.step HB45.out bb)
    have HB6 := Lib.hid (HB5.out.trans (bb.mono HB5.out.size))
    have HW := Lib.hid hw
    have HG9 := Lib.hid hg
    clear hw hg ag hlg bb hq'
    go_upto_region 5 with fail
    try rw [← HW.out]
    try rw [← HG9.out]
    clear HW
    have HDP := Lib.hid (Ex.deep_short 30 xe HS.out)
    have hJ0 : Below w6.heap.size w6 (World.drew w6) := (Below.refl _ _).drew
    refine wp_region_any (by kernel_rfl) ?_
    change wpAny _ _ _ _ _ _ _ (World.drew _)
    refine Inv.inv_any (fun (i : Nat) (v : Value) (w : World) => match i with | 0 => v = .bool ok | 1 => v = .bool ok | 2 => v = .bool true | 3 => v = .bool true | 4 => v = .agg #[.string xe.op, .string xe.nm, .string xe.fo, .slice Aq xe.ps.length cq] | 5 => v = .agg #[.string xe.op, .string xe.nm, .string xe.fo, .slice Aq' xe.ps.length cq'] | 6 => v = .bool true | 7 => v = .bool true | 8 => v = .bool true | 9 => v = .agg #[.string xe.op, .string xe.nm, .string xe.fo, .slice Aq xe.ps.length cq] | 10 => v = .int .i64 (xe.deep : Int) | 11 => v = .agg #[.string xe.op, .string xe.nm, .string xe.fo, .slice Aq' xe.ps.length cq'] | 12 => v = .int .i64 (xe.deep : Int) | 13 => v = .bool true | 14 => v = .bool true | 15 => v = .bool true | 16 => v = .agg #[.string xe.op, .string xe.nm, .string xe.fo, .slice Aq xe.ps.length cq] | 17 => v = .int .i64 (wrap xe.size) | 18 => v = .agg #[.string xe.op, .string xe.nm, .string xe.fo, .slice Aq' xe.ps.length cq'] | 19 => v = .int .i64 (wrap xe.size) | 20 => v = .bool true | 21 => v = .bool true | 22 => v = .bool true | _ => True) (fun w' : World => Below w6.heap.size w6 w') _ 23 65 rfl rfl rfl (by kernel_rfl) (by kernel_rfl) hJ0 ?_ ?_ ?_ ?_
    · intro j v w w' h hb
      match j, h with
      | 0, h => exact h
      | 1, h => exact h
      | 2, h => exact h
      | 3, h => exact h
      | 4, h => exact h
      | 5, h => exact h
      | 6, h => exact h
      | 7, h => exact h
      | 8, h => exact h
      | 9, h => exact h
      | 10, h => exact h
      | 11, h => exact h
      | 12, h => exact h
      | 13, h => exact h
      | 14, h => exact h
      | 15, h => exact h
      | 16, h => exact h
      | 17, h => exact h
      | 18, h => exact h
      | 19, h => exact h
      | 20, h => exact h
      | 21, h => exact h
      | 22, h => exact h
      | (_ + 23), _ => exact trivial
    · skip
      refine Inv.from_cons _ _ _ _ rfl (fun _ a w hJ hF F K hK => ?_) ?_
      · have hz : a.tmps.size = 65 := hF.size
        have e8 : a.tmps[8]? = some (.bool ok) := Inv2.some_slot (by rw [hz]; exact Nat.le_of_ble_eq_true rfl) (hF.slot 8 (by kernel_rfl))
        clear F hF hz
        go_simp
        exact hK (.bool ok) _ hJ (Below.refl _ _) rfl
      refine Inv.from_cons _ _ _ _ rfl (fun _ a w hJ hF F K hK => ?_) ?_
      · have hz : a.tmps.size = 65 := hF.size
        have e10 : a.tmps[10]? = some (.bool ok) := Inv2.some_slot (by rw [hz]; exact Nat.le_of_ble_eq_true rfl) (hF.slot 10 (by kernel_rfl))
        clear F hF hz
        go_simp
        exact hK (.bool ok) _ hJ (Below.refl _ _) rfl
      refine Inv.from_cons _ _ _ _ rfl (fun _ a w hJ hF F K hK => ?_) ?_
      · have hz : a.tmps.size = 65 := hF.size
        have e43 : a.tmps[43]? = some (.bool ok) := Inv2.some_slot (by rw [hz]; exact Nat.le_of_ble_eq_true rfl) (F 0 (by kernel_rfl) 43 rfl)
        have e44 : a.tmps[44]? = some (.bool ok) := Inv2.some_slot (by rw [hz]; exact Nat.le_of_ble_eq_true rfl) (F 1 (by kernel_rfl) 44 rfl)
        clear F hF hz
        cases ok <;> (go_simp; exact hK (.bool true) _ hJ (Below.refl _ _) rfl)
      refine Inv.from_cons _ _ _ _ rfl (fun _ a w hJ hF F K hK => ?_) ?_
      · have hz : a.tmps.size = 65 := hF.size
        have e45 : a.tmps[45]? = some (.bool true) := Inv2.some_slot (by rw [hz]; exact Nat.le_of_ble_eq_true rfl) (F 2 (by kernel_rfl) 45 rfl)
        clear F hF hz
        go_simp
        exact hK (.bool true) _ hJ (Below.refl _ _) rfl
      refine Inv.from_cons _ _ _ _ rfl (fun _ a w hJ hF F K hK => ?_) ?_
      · have hz : a.tmps.size = 65 := hF.size
        have e7 : a.tmps[7]? = some (.pointer (some ⟨g7, 0, none⟩)) := Inv2.some_slot (by rw [hz]; exact Nat.le_of_ble_eq_true rfl) (hF.slot 7 (by kernel_rfl))
        have e46 : a.tmps[46]? = some (.bool true) := Inv2.some_slot (by rw [hz]; exact Nat.le_of_ble_eq_true rfl) (F 3 (by kernel_rfl) 46 rfl)
        clear F hF hz
        obtain ⟨d0, d1, d2, d3⟩ := HC7.out _ (Below.step HB46.out hJ)
        go_simp
        exact hK (.agg #[.string xe.op, .string xe.nm, .string xe.fo, .slice Aq xe.ps.length cq]) _ hJ (Below.refl _ _) rfl
      refine Inv.from_cons _ _ _ _ rfl (fun _ a w hJ hF F K hK => ?_) ?_
      · have hz : a.tmps.size = 65 := hF.size
        have e9 : a.tmps[9]? = some (.pointer (some ⟨g9, 0, none⟩)) := Inv2.some_slot (by rw [hz]; exact Nat.le_of_ble_eq_true rfl) (hF.slot 9 (by kernel_rfl))
        have e46 : a.tmps[46]? = some (.bool true) := Inv2.some_slot (by rw [hz]; exact Nat.le_of_ble_eq_true rfl) (F 3 (by kernel_rfl) 46 rfl)
        clear F hF hz
        obtain ⟨d0, d1, d2, d3⟩ := HC9.out _ hJ
        go_simp
        exact hK (.agg #[.string xe.op, .string xe.nm, .string xe.fo, .slice Aq' xe.ps.length cq']) _ hJ (Below.refl _ _) rfl
      refine Inv.from_cons _ _ _ _ rfl (fun _ a w hJ hF F K hK => ?_) ?_
      · have hz : a.tmps.size = 65 := hF.size
        have e46 : a.tmps[46]? = some (.bool true) := Inv2.some_slot (by rw [hz]; exact Nat.le_of_ble_eq_true rfl) (F 3 (by kernel_rfl) 46 rfl)
        have e47 : a.tmps[47]? = some (.agg #[.string xe.op, .string xe.nm, .string xe.fo, .slice Aq xe.ps.length cq]) := Inv2.some_slot (by rw [hz]; exact Nat.le_of_ble_eq_true rfl) (F 4 (by kernel_rfl) 47 rfl)
        have e48 : a.tmps[48]? = some (.agg #[.string xe.op, .string xe.nm, .string xe.fo, .slice Aq' xe.ps.length cq']) := Inv2.some_slot (by rw [hz]; exact Nat.le_of_ble_eq_true rfl) (F 5 (by kernel_rfl) 48 rfl)
        clear F hF hz
        have hh := RuleAwake.refSameW_any xe _ xe _ w (HQ7.out w (Below.step HB46.out hJ)) (HQ9.out w hJ)
        rw [(Ex.beq_iff xe xe).2 rfl] at hh
        go_simp
        (with_reducible refine hh.mono ?_)
        rintro e' w' ⟨rfl, hb⟩
        go_simp
        exact hK _ _ (Below.step hJ hb) hb rfl
      refine Inv.from_cons _ _ _ _ rfl (fun _ a w hJ hF F K hK => ?_) ?_
      · have hz : a.tmps.size = 65 := hF.size
        have e46 : a.tmps[46]? = some (.bool true) := Inv2.some_slot (by rw [hz]; exact Nat.le_of_ble_eq_true rfl) (F 3 (by kernel_rfl) 46 rfl)
        have e49 : a.tmps[49]? = some (.bool true) := Inv2.some_slot (by rw [hz]; exact Nat.le_of_ble_eq_true rfl) (F 6 (by kernel_rfl) 49 rfl)
        clear F hF hz
        go_simp
        exact hK (.bool true) _ hJ (Below.refl _ _) rfl
      refine Inv.from_cons _ _ _ _ rfl (fun _ a w hJ hF F K hK => ?_) ?_
      · have hz : a.tmps.size = 65 := hF.size
        have e49 : a.tmps[49]? = some (.bool true) := Inv2.some_slot (by rw [hz]; exact Nat.le_of_ble_eq_true rfl) (F 6 (by kernel_rfl) 49 rfl)
        have e50 : a.tmps[50]? = some (.bool true) := Inv2.some_slot (by rw [hz]; exact Nat.le_of_ble_eq_true rfl) (F 7 (by kernel_rfl) 50 rfl)
        clear F hF hz
        go_simp
        exact hK (.bool true) _ hJ (Below.refl _ _) rfl
      refine Inv.from_cons _ _ _ _ rfl (fun _ a w hJ hF F K hK => ?_) ?_
      · have hz : a.tmps.size = 65 := hF.size
        have e7 : a.tmps[7]? = some (.pointer (some ⟨g7, 0, none⟩)) := Inv2.some_slot (by rw [hz]; exact Nat.le_of_ble_eq_true rfl) (hF.slot 7 (by kernel_rfl))
        have e51 : a.tmps[51]? = some (.bool true) := Inv2.some_slot (by rw [hz]; exact Nat.le_of_ble_eq_true rfl) (F 8 (by kernel_rfl) 51 rfl)
        clear F hF hz
        obtain ⟨d0, d1, d2, d3⟩ := HC7.out _ (Below.step HB46.out hJ)
        go_simp
        exact hK (.agg #[.string xe.op, .string xe.nm, .string xe.fo, .slice Aq xe.ps.length cq]) _ hJ (Below.refl _ _) rfl
      refine Inv.from_cons _ _ _ _ rfl (fun _ a w hJ hF F K hK => ?_) ?_
      · have hz : a.tmps.size = 65 := hF.size
        have e51 : a.tmps[51]? = some (.bool true) := Inv2.some_slot (by rw [hz]; exact Nat.le_of_ble_eq_true rfl) (F 8 (by kernel_rfl) 51 rfl)
        have e52 : a.tmps[52]? = some (.agg #[.string xe.op, .string xe.nm, .string xe.fo, .slice Aq xe.ps.length cq]) := Inv2.some_slot (by rw [hz]; exact Nat.le_of_ble_eq_true rfl) (F 9 (by kernel_rfl) 52 rfl)
        clear F hF hz
        have hh := X.cDeep xe _ w HS.out (HQ7.out w (Below.step HB46.out hJ))
        go_simp
        (with_reducible refine hh.mono ?_)
        rintro e' w' ⟨rfl, hb⟩
        go_simp
        exact hK _ _ (Below.step hJ hb) hb rfl
      refine Inv.from_cons _ _ _ _ rfl (fun _ a w hJ hF F K hK => ?_) ?_
      · have hz : a.tmps.size = 65 := hF.size
        have e9 : a.tmps[9]? = some (.pointer (some ⟨g9, 0, none⟩)) := Inv2.some_slot (by rw [hz]; exact Nat.le_of_ble_eq_true rfl) (hF.slot 9 (by kernel_rfl))
        have e51 : a.tmps[51]? = some (.bool true) := Inv2.some_slot (by rw [hz]; exact Nat.le_of_ble_eq_true rfl) (F 8 (by kernel_rfl) 51 rfl)
        clear F hF hz
        obtain ⟨d0, d1, d2, d3⟩ := HC9.out _ hJ
        go_simp
        exact hK (.agg #[.string xe.op, .string xe.nm, .string xe.fo, .slice Aq' xe.ps.length cq']) _ hJ (Below.refl _ _) rfl
      refine Inv.from_cons _ _ _ _ rfl (fun _ a w hJ hF F K hK => ?_) ?_
      · have hz : a.tmps.size = 65 := hF.size
        have e51 : a.tmps[51]? = some (.bool true) := Inv2.some_slot (by rw [hz]; exact Nat.le_of_ble_eq_true rfl) (F 8 (by kernel_rfl) 51 rfl)
        have e53 : a.tmps[53]? = some (.int .i64 (xe.deep : Int)) := Inv2.some_slot (by rw [hz]; exact Nat.le_of_ble_eq_true rfl) (F 10 (by kernel_rfl) 53 rfl)
        have e54 : a.tmps[54]? = some (.agg #[.string xe.op, .string xe.nm, .string xe.fo, .slice Aq' xe.ps.length cq']) := Inv2.some_slot (by rw [hz]; exact Nat.le_of_ble_eq_true rfl) (F 11 (by kernel_rfl) 54 rfl)
        clear F hF hz
        have hh := refDeep_any xe.size xe _ w (Nat.le_refl _) (by have := HDP.out; omega) (HQ9.out w hJ)
        go_simp
        (with_reducible refine hh.mono ?_)
        rintro e' w' ⟨rfl, hb⟩
        go_simp
        exact hK _ _ (Below.step hJ hb) hb rfl
      refine Inv.from_cons _ _ _ _ rfl (fun _ a w hJ hF F K hK => ?_) ?_
      · have hz : a.tmps.size = 65 := hF.size
        have e51 : a.tmps[51]? = some (.bool true) := Inv2.some_slot (by rw [hz]; exact Nat.le_of_ble_eq_true rfl) (F 8 (by kernel_rfl) 51 rfl)
        have e53 : a.tmps[53]? = some (.int .i64 (xe.deep : Int)) := Inv2.some_slot (by rw [hz]; exact Nat.le_of_ble_eq_true rfl) (F 10 (by kernel_rfl) 53 rfl)
        have e55 : a.tmps[55]? = some (.int .i64 (xe.deep : Int)) := Inv2.some_slot (by rw [hz]; exact Nat.le_of_ble_eq_true rfl) (F 12 (by kernel_rfl) 55 rfl)
        clear F hF hz
        go_simp
        exact hK (.bool true) _ hJ (Below.refl _ _) rfl
      refine Inv.from_cons _ _ _ _ rfl (fun _ a w hJ hF F K hK => ?_) ?_
      · have hz : a.tmps.size = 65 := hF.size
        have e51 : a.tmps[51]? = some (.bool true) := Inv2.some_slot (by rw [hz]; exact Nat.le_of_ble_eq_true rfl) (F 8 (by kernel_rfl) 51 rfl)
        have e56 : a.tmps[56]? = some (.bool true) := Inv2.some_slot (by rw [hz]; exact Nat.le_of_ble_eq_true rfl) (F 13 (by kernel_rfl) 56 rfl)
        clear F hF hz
        go_simp
        exact hK (.bool true) _ hJ (Below.refl _ _) rfl
      refine Inv.from_cons _ _ _ _ rfl (fun _ a w hJ hF F K hK => ?_) ?_
      · have hz : a.tmps.size = 65 := hF.size
        have e55 : a.tmps[55]? = some (.int .i64 (xe.deep : Int)) := Inv2.some_slot (by rw [hz]; exact Nat.le_of_ble_eq_true rfl) (F 12 (by kernel_rfl) 55 rfl)
        have e57 : a.tmps[57]? = some (.bool true) := Inv2.some_slot (by rw [hz]; exact Nat.le_of_ble_eq_true rfl) (F 14 (by kernel_rfl) 57 rfl)
        clear F hF hz
        go_simp
        exact hK (.bool true) _ hJ (Below.refl _ _) rfl
      refine Inv.from_cons _ _ _ _ rfl (fun _ a w hJ hF F K hK => ?_) ?_
      · have hz : a.tmps.size = 65 := hF.size
        have e7 : a.tmps[7]? = some (.pointer (some ⟨g7, 0, none⟩)) := Inv2.some_slot (by rw [hz]; exact Nat.le_of_ble_eq_true rfl) (hF.slot 7 (by kernel_rfl))
        have e58 : a.tmps[58]? = some (.bool true) := Inv2.some_slot (by rw [hz]; exact Nat.le_of_ble_eq_true rfl) (F 15 (by kernel_rfl) 58 rfl)
        clear F hF hz
        obtain ⟨d0, d1, d2, d3⟩ := HC7.out _ (Below.step HB46.out hJ)
        go_simp
        exact hK (.agg #[.string xe.op, .string xe.nm, .string xe.fo, .slice Aq xe.ps.length cq]) _ hJ (Below.refl _ _) rfl
      refine Inv.from_cons _ _ _ _ rfl (fun _ a w hJ hF F K hK => ?_) ?_
      · have hz : a.tmps.size = 65 := hF.size
        have e58 : a.tmps[58]? = some (.bool true) := Inv2.some_slot (by rw [hz]; exact Nat.le_of_ble_eq_true rfl) (F 15 (by kernel_rfl) 58 rfl)
        have e59 : a.tmps[59]? = some (.agg #[.string xe.op, .string xe.nm, .string xe.fo, .slice Aq xe.ps.length cq]) := Inv2.some_slot (by rw [hz]; exact Nat.le_of_ble_eq_true rfl) (F 16 (by kernel_rfl) 59 rfl)
        clear F hF hz
        have hh := X.cSize xe _ w HS.out (HQ7.out w (Below.step HB46.out hJ))
        go_simp
        (with_reducible refine hh.mono ?_)
        rintro e' w' ⟨rfl, hb⟩
        go_simp
        exact hK _ _ (Below.step hJ hb) hb rfl
      refine Inv.from_cons _ _ _ _ rfl (fun _ a w hJ hF F K hK => ?_) ?_
      · have hz : a.tmps.size = 65 := hF.size
        have e9 : a.tmps[9]? = some (.pointer (some ⟨g9, 0, none⟩)) := Inv2.some_slot (by rw [hz]; exact Nat.le_of_ble_eq_true rfl) (hF.slot 9 (by kernel_rfl))
        have e58 : a.tmps[58]? = some (.bool true) := Inv2.some_slot (by rw [hz]; exact Nat.le_of_ble_eq_true rfl) (F 15 (by kernel_rfl) 58 rfl)
        clear F hF hz
        obtain ⟨d0, d1, d2, d3⟩ := HC9.out _ hJ
        go_simp
        exact hK (.agg #[.string xe.op, .string xe.nm, .string xe.fo, .slice Aq' xe.ps.length cq']) _ hJ (Below.refl _ _) rfl
      refine Inv.from_cons _ _ _ _ rfl (fun _ a w hJ hF F K hK => ?_) ?_
      · have hz : a.tmps.size = 65 := hF.size
        have e58 : a.tmps[58]? = some (.bool true) := Inv2.some_slot (by rw [hz]; exact Nat.le_of_ble_eq_true rfl) (F 15 (by kernel_rfl) 58 rfl)
        have e60 : a.tmps[60]? = some (.int .i64 (wrap xe.size)) := Inv2.some_slot (by rw [hz]; exact Nat.le_of_ble_eq_true rfl) (F 17 (by kernel_rfl) 60 rfl)
        have e61 : a.tmps[61]? = some (.agg #[.string xe.op, .string xe.nm, .string xe.fo, .slice Aq' xe.ps.length cq']) := Inv2.some_slot (by rw [hz]; exact Nat.le_of_ble_eq_true rfl) (F 18 (by kernel_rfl) 61 rfl)
        clear F hF hz
        have hh := refSize_any xe.size xe _ w (Nat.le_refl _) (HQ9.out w hJ)
        go_simp
        (with_reducible refine hh.mono ?_)
        rintro e' w' ⟨rfl, hb⟩
        go_simp
        exact hK _ _ (Below.step hJ hb) hb rfl
      refine Inv.from_cons _ _ _ _ rfl (fun _ a w hJ hF F K hK => ?_) ?_
      · have hz : a.tmps.size = 65 := hF.size
        have e58 : a.tmps[58]? = some (.bool true) := Inv2.some_slot (by rw [hz]; exact Nat.le_of_ble_eq_true rfl) (F 15 (by kernel_rfl) 58 rfl)
        have e60 : a.tmps[60]? = some (.int .i64 (wrap xe.size)) := Inv2.some_slot (by rw [hz]; exact Nat.le_of_ble_eq_true rfl) (F 17 (by kernel_rfl) 60 rfl)
        have e62 : a.tmps[62]? = some (.int .i64 (wrap xe.size)) := Inv2.some_slot (by rw [hz]; exact Nat.le_of_ble_eq_true rfl) (F 19 (by kernel_rfl) 62 rfl)
        clear F hF hz
        go_simp
        exact hK (.bool true) _ hJ (Below.refl _ _) rfl
      refine Inv.from_cons _ _ _ _ rfl (fun _ a w hJ hF F K hK => ?_) ?_
      · have hz : a.tmps.size = 65 := hF.size
        have e58 : a.tmps[58]? = some (.bool true) := Inv2.some_slot (by rw [hz]; exact Nat.le_of_ble_eq_true rfl) (F 15 (by kernel_rfl) 58 rfl)
        have e63 : a.tmps[63]? = some (.bool true) := Inv2.some_slot (by rw [hz]; exact Nat.le_of_ble_eq_true rfl) (F 20 (by kernel_rfl) 63 rfl)
        clear F hF hz
        go_simp
        exact hK (.bool true) _ hJ (Below.refl _ _) rfl
      refine Inv.from_cons _ _ _ _ rfl (fun _ a w hJ hF F K hK => ?_) ?_
      · have hz : a.tmps.size = 65 := hF.size
        have e43 : a.tmps[43]? = some (.bool ok) := Inv2.some_slot (by rw [hz]; exact Nat.le_of_ble_eq_true rfl) (F 0 (by kernel_rfl) 43 rfl)
        have e44 : a.tmps[44]? = some (.bool ok) := Inv2.some_slot (by rw [hz]; exact Nat.le_of_ble_eq_true rfl) (F 1 (by kernel_rfl) 44 rfl)
        have e45 : a.tmps[45]? = some (.bool true) := Inv2.some_slot (by rw [hz]; exact Nat.le_of_ble_eq_true rfl) (F 2 (by kernel_rfl) 45 rfl)
        have e46 : a.tmps[46]? = some (.bool true) := Inv2.some_slot (by rw [hz]; exact Nat.le_of_ble_eq_true rfl) (F 3 (by kernel_rfl) 46 rfl)
        have e47 : a.tmps[47]? = some (.agg #[.string xe.op, .string xe.nm, .string xe.fo, .slice Aq xe.ps.length cq]) := Inv2.some_slot (by rw [hz]; exact Nat.le_of_ble_eq_true rfl) (F 4 (by kernel_rfl) 47 rfl)
        have e48 : a.tmps[48]? = some (.agg #[.string xe.op, .string xe.nm, .string xe.fo, .slice Aq' xe.ps.length cq']) := Inv2.some_slot (by rw [hz]; exact Nat.le_of_ble_eq_true rfl) (F 5 (by kernel_rfl) 48 rfl)
        have e49 : a.tmps[49]? = some (.bool true) := Inv2.some_slot (by rw [hz]; exact Nat.le_of_ble_eq_true rfl) (F 6 (by kernel_rfl) 49 rfl)
        have e50 : a.tmps[50]? = some (.bool true) := Inv2.some_slot (by rw [hz]; exact Nat.le_of_ble_eq_true rfl) (F 7 (by kernel_rfl) 50 rfl)
        have e51 : a.tmps[51]? = some (.bool true) := Inv2.some_slot (by rw [hz]; exact Nat.le_of_ble_eq_true rfl) (F 8 (by kernel_rfl) 51 rfl)
        have e52 : a.tmps[52]? = some (.agg #[.string xe.op, .string xe.nm, .string xe.fo, .slice Aq xe.ps.length cq]) := Inv2.some_slot (by rw [hz]; exact Nat.le_of_ble_eq_true rfl) (F 9 (by kernel_rfl) 52 rfl)
        have e53 : a.tmps[53]? = some (.int .i64 (xe.deep : Int)) := Inv2.some_slot (by rw [hz]; exact Nat.le_of_ble_eq_true rfl) (F 10 (by kernel_rfl) 53 rfl)
        have e54 : a.tmps[54]? = some (.agg #[.string xe.op, .string xe.nm, .string xe.fo, .slice Aq' xe.ps.length cq']) := Inv2.some_slot (by rw [hz]; exact Nat.le_of_ble_eq_true rfl) (F 11 (by kernel_rfl) 54 rfl)
        have e55 : a.tmps[55]? = some (.int .i64 (xe.deep : Int)) := Inv2.some_slot (by rw [hz]; exact Nat.le_of_ble_eq_true rfl) (F 12 (by kernel_rfl) 55 rfl)
        have e56 : a.tmps[56]? = some (.bool true) := Inv2.some_slot (by rw [hz]; exact Nat.le_of_ble_eq_true rfl) (F 13 (by kernel_rfl) 56 rfl)
        have e57 : a.tmps[57]? = some (.bool true) := Inv2.some_slot (by rw [hz]; exact Nat.le_of_ble_eq_true rfl) (F 14 (by kernel_rfl) 57 rfl)
        have e58 : a.tmps[58]? = some (.bool true) := Inv2.some_slot (by rw [hz]; exact Nat.le_of_ble_eq_true rfl) (F 15 (by kernel_rfl) 58 rfl)
        have e59 : a.tmps[59]? = some (.agg #[.string xe.op, .string xe.nm, .string xe.fo, .slice Aq xe.ps.length cq]) := Inv2.some_slot (by rw [hz]; exact Nat.le_of_ble_eq_true rfl) (F 16 (by kernel_rfl) 59 rfl)
        have e60 : a.tmps[60]? = some (.int .i64 (wrap xe.size)) := Inv2.some_slot (by rw [hz]; exact Nat.le_of_ble_eq_true rfl) (F 17 (by kernel_rfl) 60 rfl)
        have e61 : a.tmps[61]? = some (.agg #[.string xe.op, .string xe.nm, .string xe.fo, .slice Aq' xe.ps.length cq']) := Inv2.some_slot (by rw [hz]; exact Nat.le_of_ble_eq_true rfl) (F 18 (by kernel_rfl) 61 rfl)
        have e62 : a.tmps[62]? = some (.int .i64 (wrap xe.size)) := Inv2.some_slot (by rw [hz]; exact Nat.le_of_ble_eq_true rfl) (F 19 (by kernel_rfl) 62 rfl)
        have e63 : a.tmps[63]? = some (.bool true) := Inv2.some_slot (by rw [hz]; exact Nat.le_of_ble_eq_true rfl) (F 20 (by kernel_rfl) 63 rfl)
        have e64 : a.tmps[64]? = some (.bool true) := Inv2.some_slot (by rw [hz]; exact Nat.le_of_ble_eq_true rfl) (F 21 (by kernel_rfl) 64 rfl)
        clear F hF hz
        go_simp
        exact hK (.bool true) _ hJ (Below.refl _ _) rfl
      exact Inv.from_end _ _ _ _ (by decide +kernel)
    · intro o ho; exact absurd ho (by simp)
    · intro _ a w hJ hF F
      obtain ⟨f, hf⟩ : ∃ f : Nat → Value, ∀ i, a.tmps.getD i undef = f i := ⟨_, fun _ => rfl⟩
      have g7 : f 7 = (.pointer (some ⟨g7, 0, none⟩)) := (hf 7).symm.trans (hF.slot 7 (by kernel_rfl))
      have g8 : f 8 = (.bool ok) := (hf 8).symm.trans (hF.slot 8 (by kernel_rfl))
      have g9 : f 9 = (.pointer (some ⟨g9, 0, none⟩)) := (hf 9).symm.trans (hF.slot 9 (by kernel_rfl))
      have g10 : f 10 = (.bool ok) := (hf 10).symm.trans (hF.slot 10 (by kernel_rfl))
      have g43 : f 43 = (.bool ok) := (hf 43).symm.trans (F 0 43 rfl)
      have g44 : f 44 = (.bool ok) := (hf 44).symm.trans (F 1 44 rfl)
      have g45 : f 45 = (.bool true) := (hf 45).symm.trans (F 2 45 rfl)
      have g46 : f 46 = (.bool true) := (hf 46).symm.trans (F 3 46 rfl)
      have g47 : f 47 = (.agg #[.string xe.op, .string xe.nm, .string xe.fo, .slice Aq xe.ps.length cq]) := (hf 47).symm.trans (F 4 47 rfl)
      have g48 : f 48 = (.agg #[.string xe.op, .string xe.nm, .string xe.fo, .slice Aq' xe.ps.length cq']) := (hf 48).symm.trans (F 5 48 rfl)
      have g49 : f 49 = (.bool true) := (hf 49).symm.trans (F 6 49 rfl)
      have g50 : f 50 = (.bool true) := (hf 50).symm.trans (F 7 50 rfl)
      have g51 : f 51 = (.bool true) := (hf 51).symm.trans (F 8 51 rfl)
      have g52 : f 52 = (.agg #[.string xe.op, .string xe.nm, .string xe.fo, .slice Aq xe.ps.length cq]) := (hf 52).symm.trans (F 9 52 rfl)
      have g53 : f 53 = (.int .i64 (xe.deep : Int)) := (hf 53).symm.trans (F 10 53 rfl)
      have g54 : f 54 = (.agg #[.string xe.op, .string xe.nm, .string xe.fo, .slice Aq' xe.ps.length cq']) := (hf 54).symm.trans (F 11 54 rfl)
      have g55 : f 55 = (.int .i64 (xe.deep : Int)) := (hf 55).symm.trans (F 12 55 rfl)
      have g56 : f 56 = (.bool true) := (hf 56).symm.trans (F 13 56 rfl)
      have g57 : f 57 = (.bool true) := (hf 57).symm.trans (F 14 57 rfl)
      have g58 : f 58 = (.bool true) := (hf 58).symm.trans (F 15 58 rfl)
      have g59 : f 59 = (.agg #[.string xe.op, .string xe.nm, .string xe.fo, .slice Aq xe.ps.length cq]) := (hf 59).symm.trans (F 16 59 rfl)
      have g60 : f 60 = (.int .i64 (wrap xe.size)) := (hf 60).symm.trans (F 17 60 rfl)
      have g61 : f 61 = (.agg #[.string xe.op, .string xe.nm, .string xe.fo, .slice Aq' xe.ps.length cq']) := (hf 61).symm.trans (F 18 61 rfl)
      have g62 : f 62 = (.int .i64 (wrap xe.size)) := (hf 62).symm.trans (F 19 62 rfl)
      have g63 : f 63 = (.bool true) := (hf 63).symm.trans (F 20 63 rfl)
      have g64 : f 64 = (.bool true) := (hf 64).symm.trans (F 21 64 rfl)
      have g6 : f 6 = (.bool true) := (hf 6).symm.trans (F 22 6 rfl)
      have ha := Frames.frame (show a.tmps.size = 65 from hF.size) hF.defers hf (l := [f 0, f 1, f 2, f 3, f 4, f 5, f 6, f 7, f 8, f 9, f 10, f 11, f 12, f 13, f 14, f 15, f 16, f 17, f 18, f 19, f 20, f 21, f 22, f 23, f 24, f 25, f 26, f 27, f 28, f 29, f 30, f 31, f 32, f 33, f 34, f 35, f 36, f 37, f 38, f 39, f 40, f 41, f 42, f 43, f 44, f 45, f 46, f 47, f 48, f 49, f 50, f 51, f 52, f 53, f 54, f 55, f 56, f 57, f 58, f 59, f 60, f 61, f 62, f 63, f 64]) rfl
      simp only [g7, g8, g9, g10, g43, g44, g45, g46, g47, g48, g49, g50, g51, g52, g53, g54, g55, g56, g57, g58, g59, g60, g61, g62, g63, g64, g6] at ha
      clear F hF hf g7 g8 g9 g10 g43 g44 g45 g46 g47 g48 g49 g50 g51 g52 g53 g54 g55 g56 g57 g58 g59 g60 g61 g62 g63 g64 g6
      subst ha
      have HB := Lib.hid (HB6.out.trans (hJ.mono HB6.out.size))
      clear hJ
      go_wp2_with fail
      go_ret
      exact ⟨rfl, HB.out⟩
end Go.Proofs.YtkmnbdomikpakaaDoor.RuleFinds
