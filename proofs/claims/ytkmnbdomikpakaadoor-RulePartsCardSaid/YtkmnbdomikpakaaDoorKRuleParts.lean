/- The walk of RuleParts. -/
import Derived.Test.YtkmnbdomikpakaaDoorKHeld
import Derived.Test.YtkmnbdomikpakaaDoorKRuleAwake
namespace Go.Proofs.YtkmnbdomikpakaaDoor.RuleParts
open Go.RowKit Base KeyPlain TuplePlain TupleRef RulePlain RuleMem RuleRec RuleFew RuleFind RuleCan RuleSpec RuleGl

theorem fewR_short {r : Rl} (h : fewR r = true) : r.e.short 30 = true := by
  simp only [fewR, Bool.and_eq_true] at h
  exact h.1.1
theorem few_short {l : List Kd} (h : few l = true) {k : Kd} (hk : k ∈ l) {r : Rl} (hr : r ∈ k.rules) : r.e.short 30 = true := by
  simp only [few, Bool.and_eq_true] at h
  have h1 := List.all_eq_true.1 h.2 k hk
  simp only [fewK, Bool.and_eq_true] at h1
  exact fewR_short (List.all_eq_true.1 h1.2 r hr)
theorem short_up : ∀ (d : Nat) (e : Ex), e.short d = true → e.short (d + 1) = true
  | 0, .mk _ _ _ _, h => by simp [Ex.short] at h
  | d + 1, .mk op nm fo ps, h => by
    simp only [Ex.short, Bool.and_eq_true] at h
    have k : ∀ l : List Ex, (∀ e, e ∈ l → e.short (d + 1) = true) → shortL (d + 1) l = true := fun l => by
      induction l with
      | nil => intro _; simp [shortL]
      | cons e l ih =>
        intro hh
        have h1 := hh e (by simp)
        have h2 := ih fun x hx => hh x (by simp [hx])
        simp only [shortL, h1, h2, Bool.and_true]
    have h2 := k ps fun e he => short_up d e (shortL_mem he h.2)
    rw [Ex.short, h2]
    simp only [Bool.and_true, Bool.and_eq_true]
    exact h.1
theorem part_short {e : Ex} (h : e.short 30 = true) {i : Nat} (hi : i < e.ps.length) : (e.ps[i]).short 30 = true := by
  obtain ⟨op, nm, fo, ps⟩ := e
  simp only [Ex.short, Bool.and_eq_true] at h
  exact short_up 29 _ (shortL_mem (List.getElem_mem hi) h.2)
theorem ex_deep (e : Ex) : e.deep = deepL e.ps + 1 := by obtain ⟨op, nm, fo, ps⟩ := e; simp only [Ex.deep, Ex.ps]
theorem ex_size (e : Ex) : e.size = sizeL e.ps + 1 := by obtain ⟨op, nm, fo, ps⟩ := e; simp only [Ex.size, Ex.ps]
theorem len_short {e : Ex} (h : e.short 30 = true) : e.ps.length ≤ 70 := by
  obtain ⟨op, nm, fo, ps⟩ := e
  simp only [Ex.short, Bool.and_eq_true, decide_eq_true_eq] at h
  exact h.1.2
theorem iwrap (x : Int) : IntKind.wrap .i64 x = wrap64 x := by
  show (if (true && decide (x % 18446744073709551616 ≥ 9223372036854775808)) = true then x % 18446744073709551616 - 18446744073709551616 else x % 18446744073709551616) = wrap64 x
  unfold wrap64
  by_cases h : x % 18446744073709551616 ≥ 9223372036854775808
  · rw [if_pos (by simp [h])]; omega
  · rw [if_neg (by simp [h])]; omega
theorem wrap_zero : wrap 0 = 0 := by simp only [wrap, wrap64]; omega
theorem wrap_next (n : Nat) : wrap64 (wrap n + 1) = wrap (n + 1) := by
  simp only [wrap, wrap64]
  omega
set_option maxRecDepth 100000 in
set_option maxHeartbeats 25600000 in
theorem parts_any (X : Specs) (A : Option Addr) (c : Nat) (l : List Kd) (W : World) (hG : Gl W) (hL : LayL W W.heap.size A l) (hn : l.length ≤ maxLen) : Calls Tryd.prog 8 #[.slice A l.length c] W (Law W) := by
  have HL := Lib.hid (fun (w' : World) (hw' : Below W.heap.size W w') => hL.later hw')
  clear hL
  have HGL := Lib.hid (fun (w' : World) (hw' : Below W.heap.size W w') => hG.later hw')
  clear hG
  unfold Law
  go_enter Tryd.func8, Tryd.ntmps8
  have hcall := RuleAwake.awake_any X W (HGL.out W (Below.refl _ _))
  unfold Law at hcall
  go_wp2_with fail
  (with_reducible refine hcall.mono ?_)
  clear hcall
  rintro e w1 ⟨rfl, bb⟩
  have HB1 := Lib.hid bb
  clear bb
  have hcall := RuleFew.refFew_any A c l w1 (HL.out w1 HB1.out) hn
  obtain ⟨fb, hfb⟩ : ∃ v, few l = v := ⟨_, rfl⟩
  rw [hfb] at hcall
  have HF := Lib.hid hfb
  clear hfb
  go_wp2_with fail
  (with_reducible refine hcall.mono ?_)
  clear hcall
  rintro e w2 ⟨rfl, bb⟩
  have HB2 := Lib.hid (HB1.out.trans (bb.mono HB1.out.size))
  clear bb
  cases fb with
  | false =>
    have hcall := RuleAwake.awake_any X w2 (HGL.out w2 HB2.out)
    unfold Law at hcall
    go_wp2_with fail
    (with_reducible refine hcall.mono ?_)
    clear hcall
    rintro e w8 ⟨rfl, bb⟩
    have HB8 := Lib.hid (HB2.out.trans (bb.mono HB2.out.size))
    clear bb
    go_wp2_with fail
    go_ret
    exact ⟨rfl, HB8.out⟩
  | true =>
    go_wp2_with fail
    go_loopw [3, 4, 5, 6, 7, 8] (fun i b c5 c6 c7 c8 wr => (b = b ∧ c5 = c5 ∧ c6 = c6 ∧ c7 = c7 ∧ c8 = c8) ∧ ∃ k : Nat, k ≤ l.length ∧ i = .int .i64 k ∧ Below W.heap.size W wr) (fun i _ _ _ _ _ _ => l.length - (intOf i).toNat)
    case atStart => exact ⟨⟨rfl, rfl, rfl, rfl, rfl⟩, 0, by omega, rfl, HB2.out⟩
    case round =>
      obtain ⟨_, k, hk, rfl, hB⟩ := hrel
      have HBW := Lib.hid hB
      unfold maxLen at hn
      by_cases hlt : k < l.length
      rotate_left
      · have hni : ¬ (k : Int) < (l.length : Int) := by omega
        go_wp2_with fail
        go_ret
        exact ⟨rfl, HBW.out⟩
      have HLT := Lib.hid (Nat.not_le_of_lt hlt)
      have HKM := Lib.hid (List.getElem_mem hlt)
      obtain ⟨ad, K, cK, rfl, hks, hrs, hml⟩ := kind_see (HL.out wr hB) k hlt
      have HKS := Lib.hid (fun (w' : World) (hw' : Below wr.heap.size wr w') => hks.below hw')
      have HRL := Lib.hid hrs
      clear hks hrs hB
      generalize l[k] = kd at *
      obtain ⟨nm, rs⟩ := kd
      simp only at hml HKS HRL
      unfold maxLen at hml
      have HSH := Lib.hid (fun (r : Rl) (hr : r ∈ rs) => few_short HF.out HKM.out hr)
      go_wp2_with fail
      generalize wr = wa at *
      go_loopw [4, 5, 6, 7, 8] (fun i c5 c6 c7 c8 wr => (c5 = c5 ∧ c6 = c6 ∧ c7 = c7 ∧ c8 = c8) ∧ ∃ m : Nat, m ≤ rs.length ∧ i = .int .i64 m ∧ Below wa.heap.size wa wr) (fun i _ _ _ _ _ => rs.length - (intOf i).toNat)
      case atStart => exact ⟨⟨rfl, rfl, rfl, rfl⟩, 0, by omega, rfl, Below.refl _ _⟩
      case round =>
        obtain ⟨_, m, hm, rfl, hB⟩ := hrel
        have HBV := Lib.hid hB
        have sk := HKS.out wr hB
        have k0 := sk.at0
        have k1 := sk.at_ 0 rfl
        clear sk
        by_cases hlm : m < rs.length
        rotate_left
        · have hni : ¬ (m : Int) < (rs.length : Int) := by omega
          have HBX := Lib.hid (HBW.out.trans (HBV.out.mono HBW.out.size))
          go_wp2_with fail
          go_roundw
          case rel => exact ⟨⟨trivial, trivial, trivial, trivial, trivial⟩, k + 1, by have := HLT.out; omega, by go_num, HBX.out⟩
          case measure => have := HLT.out; simp [intOf]; omega
        have HLM := Lib.hid (Nat.not_le_of_lt hlm)
        have HS := Lib.hid (HSH.out _ (List.getElem_mem hlm))
        obtain ⟨bd, x1, x2, x3, x4, rfl, hrs, hy⟩ := rule_see (HRL.out.imp (see_later hB) fun _ _ _ h => h.imp (see_later hB)) m hlm
        have r0 := hrs.at0
        have r1 := hrs.at_ 0 rfl
        have r2 := hrs.at_ 1 rfl
        have r3 := hrs.at_ 2 rfl
        have r4 := hrs.at_ 3 rfl
        generalize rs[m] = rl at *
        obtain ⟨rel, e⟩ := rl
        simp only at HS hy r0
        have lmI : (m : Int) < (rs.length : Int) := by omega
        obtain ⟨Z, z, hxe, hps, hpl⟩ := hy.open
        simp only [List.cons.injEq, and_true] at hxe
        obtain ⟨rfl, rfl, rfl, rfl⟩ := hxe
        obtain ⟨w4, hw4⟩ : ∃ v, v = wr.alloc (.cells #[.string e.op, .string e.nm, .string e.fo, .slice Z e.ps.length z] 34) := ⟨_, rfl⟩
        obtain ⟨g5, hg5⟩ : ∃ v, v = wr.heap.size := ⟨_, rfl⟩
        have bb : Below wr.heap.size wr w4 := by rw [hw4]; exact al _ _
        have a5 : w4.heap[g5]? = some (.cells #[.string e.op, .string e.nm, .string e.fo, .slice Z e.ps.length z] 34 (0, 0)) := by rw [hw4, hg5]; exact heap_alloc_new wr _
        have hl5 := (Array.getElem?_eq_some_iff.1 a5).1
        have HC := Lib.hid (fun (w' : World) (hw' : Below w4.heap.size w4 w') => four_at ((hw'.block g5 hl5).trans a5))
        have HE := Lib.hid (fun (w' : World) (hw' : Below w4.heap.size w4 w') => hy.later (Below.step bb hw'))
        have HPS := Lib.hid (fun (w' : World) (hw' : Below w4.heap.size w4 w') => hps.imp (see_later (Below.step bb hw')) fun _ _ _ h => h.later (Below.step bb hw'))
        have HB4 := Lib.hid (Below.step hB bb)
        have HW := Lib.hid hw4
        have HG := Lib.hid hg5
        clear hw4 hg5 bb a5 hl5 hy hps hrs hB
        have HPL := Lib.hid (len_short HS.out)
        have HDP := Lib.hid (show deepL e.ps ≤ 30 from by have h1 := Ex.deep_short 30 e HS.out; rw [ex_deep] at h1; omega)
        go_upto_region 10 with fail
        try rw [← HW.out]
        try rw [← HG.out]
        clear HW k0 k1 r0 r1 r2 r3 r4
        go_wp2_with fail
        go_loopw [6, 7, 8] (fun d s i wr => ∃ j : Nat, j ≤ e.ps.length ∧ i = .int .i64 j ∧ d = .int .i64 (deepL (e.ps.take j) : Int) ∧ s = .int .i64 (wrap (sizeL (e.ps.take j))) ∧ Below w4.heap.size w4 wr) (fun _ _ i _ => e.ps.length - (intOf i).toNat)
        case atStart => exact ⟨0, by omega, rfl, by simp [deepL], by simp [sizeL, wrap_zero], Below.refl _ _⟩
        case round =>
          obtain ⟨j, hj, rfl, rfl, rfl, hB⟩ := hrel
          have HBU := Lib.hid hB
          obtain ⟨d0, d1, d2, d3⟩ := HC.out _ hB
          have hpl := HPL.out
          by_cases hlj : j < e.ps.length
          rotate_left
          · have hni : ¬ (j : Int) < (e.ps.length : Int) := by omega
            have hE1 := List.take_of_length_le (l := e.ps) (i := j) (by omega)
            rw [hE1]
            have hdp := HDP.out
            have HXD := Lib.hid (ex_deep e)
            have HXS := Lib.hid (ex_size e)
            clear hE1
            have hcall := X.cDeep e _ _ HS.out (HE.out _ HBU.out)
            rw [HXD.out] at hcall
            generalize deepL e.ps = dd at *
            go_wp2_with fail
            (with_reducible refine hcall.mono ?_)
            clear hcall d0 d1 d2 d3
            rintro e9 w5 ⟨rfl, b5⟩
            have HB5 := Lib.hid (Below.step HBU.out b5)
            clear b5
            obtain ⟨d0, d1, d2, d3⟩ := HC.out _ HB5.out
            have hcall := X.cSize e _ _ HS.out (HE.out _ HB5.out)
            have HWN := Lib.hid (show wrap64 (wrap (sizeL e.ps) + 1) = wrap e.size from by rw [HXS.out]; exact wrap_next _)
            generalize wrap (sizeL e.ps) = sz at *
            generalize hse : wrap e.size = se at *
            have hq : (se != wrap64 (sz + 1)) = false := by rw [HWN.out]; simp
            have hd : (((dd + 1 : Nat) : Int) != (dd : Int) + 1) = false := by simp
            clear hse
            go_simp
            go_wp2_with fail
            (with_reducible refine hcall.mono ?_)
            clear hcall d0 d1 d2 d3
            rintro e9 w6 ⟨rfl, b6⟩
            have HBX := Lib.hid (Below.step HB4.out (Below.step HB5.out b6))
            clear b6
            go_simp
            go_wp2_with fail
            go_roundw
            case rel => exact ⟨⟨trivial, trivial, trivial, trivial⟩, m + 1, by have := HLM.out; omega, by go_num, HBX.out⟩
            case measure => have := HLM.out; simp [intOf]; omega
          obtain ⟨pd, y0, y1, y2, y3, rfl, hbk, z0, z1, z2, z3, hy⟩ := (HPS.out _ hB).part j hlj
          have HPT := Lib.hid (part_short HS.out hlj)
          have HD9 := Lib.hid (fun (w' : World) (hw' : Below wr.heap.size wr w') => X.cDeep e.ps[j] _ w' HPT.out (hy.later hw'))
          have HS9 := Lib.hid (fun (w' : World) (hw' : Below wr.heap.size wr w') => X.cSize e.ps[j] _ w' HPT.out (hy.later hw'))
          have HSV := Lib.hid (fun (w' : World) (hw' : Below wr.heap.size wr w') => And.intro (HC.out _ (Below.step hB hw')) (cells4_later hbk z0 z1 z2 z3 hw'))
          have hzt := deepL_take e.ps j hlj
          have hst := sizeL_take e.ps j hlj
          generalize hdn : deepL (e.ps.take (j + 1)) = dn at *
          generalize hsn : wrap (sizeL (e.ps.take (j + 1))) = sn at *
          have HDN := Lib.hid hdn
          have HSN := Lib.hid hsn
          have HM6 := Lib.hid (show (if deepL (e.ps.take j) < (e.ps[j]).deep then ((e.ps[j]).deep : Int) else (deepL (e.ps.take j) : Int)) = (dn : Int) from by split <;> omega)
          have HM7 := Lib.hid (show IntKind.wrap .i64 (wrap (sizeL (e.ps.take j)) + wrap (e.ps[j]).size) = sn from by rw [iwrap, wrap_add, ← hst, hsn])
          clear hdn hsn hzt hst hbk hy hB
          generalize deepL (e.ps.take j) = d9 at *
          generalize wrap (sizeL (e.ps.take j)) = s9 at *
          generalize (e.ps[j]).deep = dp at *
          generalize wrap (e.ps[j]).size = sp9 at *
          have HLJ := Lib.hid (Nat.not_le_of_lt hlj)
          go_upto_region 14 with fail
          clear d0 d1 d2 d3 z0 z1 z2 z3
          refine wp_region_any (by kernel_rfl) ?_
          change wpAny _ _ _ _ _ _ _ (World.drew _)
          refine Held.any_of_G (S := (fun w' : World => (w'.cell? ⟨g5, 0, none⟩ = some (.string e.op) ∧ w'.cell? ⟨g5, 1, none⟩ = some (.string e.nm) ∧ w'.cell? ⟨g5, 2, none⟩ = some (.string e.fo) ∧ w'.cell? ⟨g5, 3, none⟩ = some (.slice (some pd) e.ps.length z)) ∧ (w'.cell? (pd.add (j * 4)) = some y0 ∧ w'.cell? ⟨(pd.add (j * 4)).block, (pd.add (j * 4)).off + 1, none⟩ = some y1 ∧ w'.cell? ⟨(pd.add (j * 4)).block, (pd.add (j * 4)).off + 2, none⟩ = some y2 ∧ w'.cell? ⟨(pd.add (j * 4)).block, (pd.add (j * 4)).off + 3, none⟩ = some y3))) (z := 17) _ _ _ _ ?_
          refine Held.G_take (i := 0) (d := 49) (v := ?_) [0, 7, 16, 17] rfl rfl (by kernel_rfl) (by kernel_rfl) (by kernel_rfl) (by kernel_rfl) (fun _ _ _ h => h) (Or.inl ⟨by rfl, ?_⟩) (HSV.out _ (show Below wr.heap.size wr (World.drew wr) from (Below.refl _ _).drew)) ?_
          rotate_left 1
          · intro w hSw; clear hSw; go_simp <;> with_reducible rfl
          simp only [Act.put, List.setIfInBounds_toArray, List.set_cons_zero, List.set_cons_succ]
          refine Held.G_take (i := 1) (d := 50) (v := ?_) [1, 2, 4, 5, 6, 7, 14, 15, 16, 17] rfl rfl (by kernel_rfl) (by kernel_rfl) (by kernel_rfl) (by kernel_rfl) (fun _ _ _ h => h) (Or.inl ⟨by rfl, ?_⟩) (HSV.out _ (show Below wr.heap.size wr (World.drew wr) from (Below.refl _ _).drew)) ?_
          rotate_left 1
          · intro w hSw; clear hSw; go_simp <;> with_reducible rfl
          simp only [Act.put, List.setIfInBounds_toArray, List.set_cons_zero, List.set_cons_succ]
          refine Held.G_take (i := 2) (d := 51) (v := ?_) [2, 4, 5, 6, 7, 14, 15, 16, 17] rfl rfl (by kernel_rfl) (by kernel_rfl) (by kernel_rfl) (by kernel_rfl) (fun _ _ _ h => h) (Or.inl ⟨by rfl, ?_⟩) (HSV.out _ (show Below wr.heap.size wr (World.drew wr) from (Below.refl _ _).drew)) ?_
          rotate_left 1
          · intro w hSw; obtain ⟨⟨d0, d1, d2, d3⟩, z0, z1, z2, z3⟩ := hSw; go_simp <;> with_reducible rfl
          simp only [Act.put, List.setIfInBounds_toArray, List.set_cons_zero, List.set_cons_succ]
          refine Held.G_take (i := 3) (d := 52) (v := ?_) [3, 4, 5, 6, 7, 14, 15, 16, 17] rfl rfl (by kernel_rfl) (by kernel_rfl) (by kernel_rfl) (by kernel_rfl) (fun _ _ _ h => h) (Or.inl ⟨by rfl, ?_⟩) (HSV.out _ (show Below wr.heap.size wr (World.drew wr) from (Below.refl _ _).drew)) ?_
          rotate_left 1
          · intro w hSw; clear hSw; go_simp <;> with_reducible rfl
          simp only [Act.put, List.setIfInBounds_toArray, List.set_cons_zero, List.set_cons_succ]
          refine Held.G_take (i := 4) (d := 53) (v := ?_) [4, 5, 6, 7, 14, 15, 16, 17] rfl rfl (by kernel_rfl) (by kernel_rfl) (by kernel_rfl) (by kernel_rfl) (fun _ _ _ h => h) (Or.inl ⟨by rfl, ?_⟩) (HSV.out _ (show Below wr.heap.size wr (World.drew wr) from (Below.refl _ _).drew)) ?_
          rotate_left 1
          · intro w hSw; clear hSw; go_simp <;> with_reducible rfl
          simp only [Act.put, List.setIfInBounds_toArray, List.set_cons_zero, List.set_cons_succ]
          refine Held.G_take (i := 5) (d := 54) (v := ?_) [5, 6, 7, 14, 15, 16, 17] rfl rfl (by kernel_rfl) (by kernel_rfl) (by kernel_rfl) (by kernel_rfl) (fun _ _ _ h => h) (Or.inl ⟨by rfl, ?_⟩) (HSV.out _ (show Below wr.heap.size wr (World.drew wr) from (Below.refl _ _).drew)) ?_
          rotate_left 1
          · intro w hSw; obtain ⟨⟨d0, d1, d2, d3⟩, z0, z1, z2, z3⟩ := hSw; go_simp <;> with_reducible rfl
          simp only [Act.put, List.setIfInBounds_toArray, List.set_cons_zero, List.set_cons_succ]
          refine Held.G_take (i := 8) (d := 57) (v := ?_) [8, 15, 17] rfl rfl (by kernel_rfl) (by kernel_rfl) (by kernel_rfl) (by kernel_rfl) (fun _ _ _ h => h) (Or.inl ⟨by rfl, ?_⟩) (HSV.out _ (show Below wr.heap.size wr (World.drew wr) from (Below.refl _ _).drew)) ?_
          rotate_left 1
          · intro w hSw; clear hSw; go_simp <;> with_reducible rfl
          simp only [Act.put, List.setIfInBounds_toArray, List.set_cons_zero, List.set_cons_succ]
          refine Held.G_take (i := 9) (d := 58) (v := ?_) [9, 10, 12, 13, 14, 15, 16, 17] rfl rfl (by kernel_rfl) (by kernel_rfl) (by kernel_rfl) (by kernel_rfl) (fun _ _ _ h => h) (Or.inl ⟨by rfl, ?_⟩) (HSV.out _ (show Below wr.heap.size wr (World.drew wr) from (Below.refl _ _).drew)) ?_
          rotate_left 1
          · intro w hSw; clear hSw; go_simp <;> with_reducible rfl
          simp only [Act.put, List.setIfInBounds_toArray, List.set_cons_zero, List.set_cons_succ]
          refine Held.G_take (i := 10) (d := 59) (v := ?_) [10, 12, 13, 14, 15, 16, 17] rfl rfl (by kernel_rfl) (by kernel_rfl) (by kernel_rfl) (by kernel_rfl) (fun _ _ _ h => h) (Or.inl ⟨by rfl, ?_⟩) (HSV.out _ (show Below wr.heap.size wr (World.drew wr) from (Below.refl _ _).drew)) ?_
          rotate_left 1
          · intro w hSw; obtain ⟨⟨d0, d1, d2, d3⟩, z0, z1, z2, z3⟩ := hSw; go_simp <;> with_reducible rfl
          simp only [Act.put, List.setIfInBounds_toArray, List.set_cons_zero, List.set_cons_succ]
          refine Held.G_take (i := 11) (d := 60) (v := ?_) [11, 12, 13, 14, 15, 16, 17] rfl rfl (by kernel_rfl) (by kernel_rfl) (by kernel_rfl) (by kernel_rfl) (fun _ _ _ h => h) (Or.inl ⟨by rfl, ?_⟩) (HSV.out _ (show Below wr.heap.size wr (World.drew wr) from (Below.refl _ _).drew)) ?_
          rotate_left 1
          · intro w hSw; clear hSw; go_simp <;> with_reducible rfl
          simp only [Act.put, List.setIfInBounds_toArray, List.set_cons_zero, List.set_cons_succ]
          refine Held.G_take (i := 12) (d := 61) (v := ?_) [12, 13, 14, 15, 16, 17] rfl rfl (by kernel_rfl) (by kernel_rfl) (by kernel_rfl) (by kernel_rfl) (fun _ _ _ h => h) (Or.inl ⟨by rfl, ?_⟩) (HSV.out _ (show Below wr.heap.size wr (World.drew wr) from (Below.refl _ _).drew)) ?_
          rotate_left 1
          · intro w hSw; clear hSw; go_simp <;> with_reducible rfl
          simp only [Act.put, List.setIfInBounds_toArray, List.set_cons_zero, List.set_cons_succ]
          refine Held.G_take (i := 13) (d := 62) (v := ?_) [13, 14, 15, 16, 17] rfl rfl (by kernel_rfl) (by kernel_rfl) (by kernel_rfl) (by kernel_rfl) (fun _ _ _ h => h) (Or.inl ⟨by rfl, ?_⟩) (HSV.out _ (show Below wr.heap.size wr (World.drew wr) from (Below.refl _ _).drew)) ?_
          rotate_left 1
          · intro w hSw; obtain ⟨⟨d0, d1, d2, d3⟩, z0, z1, z2, z3⟩ := hSw; go_simp <;> with_reducible rfl
          simp only [Act.put, List.setIfInBounds_toArray, List.set_cons_zero, List.set_cons_succ]
          refine Held.G_ready (rs := [6]) (by decide +kernel) (by simp) ?_
          refine Held.G_cons rfl (fun KK hK => ?_) Held.G_nil
          go_simp
          have hcall := HD9.out _ (show Below wr.heap.size wr (World.drew wr) from (Below.refl _ _).drew)
          (with_reducible refine hcall.mono ?_)
          clear hcall
          rintro e9 v1 ⟨rfl, bq⟩
          have hq1 : Below wr.heap.size wr v1 := Below.step (show Below wr.heap.size wr (World.drew wr) from (Below.refl _ _).drew) bq
          clear bq
          go_simp
          refine hK _ _ ?_
          clear hK KK
          refine ⟨(HSV.out _ hq1), ?_⟩
          refine Held.G_ready (rs := [7, 14]) (by decide +kernel) (by simp) ?_
          refine Held.G_cons rfl (fun KK hK => ?_) ?_
          · go_simp
            refine hK _ _ ⟨(HSV.out _ hq1), ?_⟩
            clear hK KK
            refine Held.G_ready (rs := [14]) (by decide +kernel) (by simp) ?_
            refine Held.G_cons rfl (fun KK hK => ?_) Held.G_nil
            go_simp
            have hcall := HS9.out _ hq1
            (with_reducible refine hcall.mono ?_)
            clear hcall
            rintro e9 v2 ⟨rfl, bq⟩
            have hq2 : Below wr.heap.size wr v2 := Below.step hq1 bq
            clear bq
            go_simp
            refine hK _ _ ?_
            clear hK KK
            refine ⟨(HSV.out _ hq2), ?_⟩
            refine Held.G_take (i := 15) (d := 64) (v := ?_) [15, 17] rfl rfl (by kernel_rfl) (by kernel_rfl) (by kernel_rfl) (by kernel_rfl) (fun _ _ _ h => h) (Or.inl ⟨by rfl, ?_⟩) (HSV.out _ hq2) ?_
            rotate_left 1
            · intro w hSw; clear hSw; go_simp <;> with_reducible rfl
            simp only [Act.put, List.setIfInBounds_toArray, List.set_cons_zero, List.set_cons_succ]
            refine Held.G_take (i := 16) (d := 6) (v := ?_) [16, 17] rfl rfl (by kernel_rfl) (by kernel_rfl) (by kernel_rfl) (by kernel_rfl) (fun _ _ _ h => h) (Or.inl ⟨by rfl, ?_⟩) (HSV.out _ hq2) ?_
            rotate_left 1
            · intro w hSw; clear hSw; go_simp <;> with_reducible rfl
            simp only [Act.put, List.setIfInBounds_toArray, List.set_cons_zero, List.set_cons_succ]
            refine Held.G_ready (rs := [17]) (by decide +kernel) (by simp) ?_
            refine Held.G_last rfl (fun KK hK => ?_) Held.G_nil
            go_simp
            refine hK _ _ ?_
            clear hK KK
            refine Held.G_done (by kernel_rfl) ?_ _
            have HBX := Lib.hid (Below.step HBU.out hq2)
            clear hq2 hq1
            go_wp2_with fail
            go_roundw
            case rel => exact ⟨j + 1, by have := HLJ.out; omega, by go_num, by rw [HM6.out, HDN.out], by rw [HM7.out, HSN.out], HBX.out⟩
            case measure => have := HLJ.out; simp [intOf]; omega
          refine Held.G_cons rfl (fun KK hK => ?_) Held.G_nil
          go_simp
          have hcall := HS9.out _ hq1
          (with_reducible refine hcall.mono ?_)
          clear hcall
          rintro e9 v2 ⟨rfl, bq⟩
          have hq2 : Below wr.heap.size wr v2 := Below.step hq1 bq
          clear bq
          go_simp
          refine hK _ _ ?_
          clear hK KK
          refine ⟨(HSV.out _ hq2), ?_⟩
          refine Held.G_take (i := 15) (d := 64) (v := ?_) [15, 17] rfl rfl (by kernel_rfl) (by kernel_rfl) (by kernel_rfl) (by kernel_rfl) (fun _ _ _ h => h) (Or.inl ⟨by rfl, ?_⟩) (HSV.out _ hq2) ?_
          rotate_left 1
          · intro w hSw; clear hSw; go_simp <;> with_reducible rfl
          simp only [Act.put, List.setIfInBounds_toArray, List.set_cons_zero, List.set_cons_succ]
          refine Held.G_ready (rs := [7]) (by decide +kernel) (by simp) ?_
          refine Held.G_cons rfl (fun KK hK => ?_) Held.G_nil
          go_simp
          refine hK _ _ ⟨(HSV.out _ hq2), ?_⟩
          clear hK KK
          refine Held.G_take (i := 16) (d := 6) (v := ?_) [16, 17] rfl rfl (by kernel_rfl) (by kernel_rfl) (by kernel_rfl) (by kernel_rfl) (fun _ _ _ h => h) (Or.inl ⟨by rfl, ?_⟩) (HSV.out _ hq2) ?_
          rotate_left 1
          · intro w hSw; clear hSw; go_simp <;> with_reducible rfl
          simp only [Act.put, List.setIfInBounds_toArray, List.set_cons_zero, List.set_cons_succ]
          refine Held.G_ready (rs := [17]) (by decide +kernel) (by simp) ?_
          refine Held.G_last rfl (fun KK hK => ?_) Held.G_nil
          go_simp
          refine hK _ _ ?_
          clear hK KK
          refine Held.G_done (by kernel_rfl) ?_ _
          have HBX := Lib.hid (Below.step HBU.out hq2)
          clear hq2 hq1
          go_wp2_with fail
          go_roundw
          case rel => exact ⟨j + 1, by have := HLJ.out; omega, by go_num, by rw [HM6.out, HDN.out], by rw [HM7.out, HSN.out], HBX.out⟩
          case measure => have := HLJ.out; simp [intOf]; omega
end Go.Proofs.YtkmnbdomikpakaaDoor.RuleParts
