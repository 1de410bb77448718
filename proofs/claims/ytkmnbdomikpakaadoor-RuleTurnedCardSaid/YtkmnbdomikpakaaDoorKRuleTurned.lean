/- The walk of RuleTurned. -/
import Derived.Test.YtkmnbdomikpakaaDoorKReg
import Derived.Test.YtkmnbdomikpakaaDoorKRuleAwake
import Derived.Test.YtkmnbdomikpakaaDoorKRuleTurnM
namespace Go.Proofs.YtkmnbdomikpakaaDoor.RuleTurned
open Go.RowKit Base KeyPlain TuplePlain TupleRef RulePlain RuleMem RuleRec RuleFew RuleFind RuleCan RuleSpec RuleFacts RuleLines RulePlumb RuleRow RuleTurnM RuleGl RuleChkC

theorem step_append_run {P : Program} {w : World} {ops : Array Oper} {o : Oper} {a : Act} {K : Act → World → Prop} {Q : Exit → Act → World → Prop} {E : Prop} (hg : o.guard = none) (s x : Operand) (t u : TypeId)
    (hop : o.op = Op.call { callee := Callee.builtin Builtin.append, args := #[s, x], argTypes := #[t, u] }) {vs vx v : Value} {w' : World} (hs : a.eval s = vs) (hx : a.eval x = vx)
    (hrun : (Builtin.append_ #[t, u] o.type #[vs, vx]).run P w = .ok v w') (hK : K (a.put o.dst v) w') : if Region.wanted o (yielded ops a.tmps) = true then Oper.wp P o a w K Q else E := by
  have hw : Region.wanted o (yielded ops a.tmps) = true := by simp [Region.wanted, hg]
  rw [if_pos hw]
  unfold Oper.wp
  simp [execOp, hop, resolve, invoke, builtin, hs, hx, hrun, Result.andThen]
  exact hK
theorem step_append_d {P : Program} {w : World} {ops : Array Oper} {o : Oper} {a : Act} {K : Act → World → Prop} {Q : Exit → Act → World → Prop} {E : Prop} {d : Tmp} (hg : o.guard = none) (hd : o.dst = some d) (s x : Operand) (t u : TypeId)
    (hop : o.op = Op.call { callee := Callee.builtin Builtin.append, args := #[s, x], argTypes := #[t, u] }) {vs vx v : Value} {w' : World} (hs : a.eval s = vs) (hx : a.eval x = vx)
    (hrun : (Builtin.append_ #[t, u] o.type #[vs, vx]).run P w = .ok v w') (hK : K (a.put (some d) v) w') : if Region.wanted o (yielded ops a.tmps) = true then Oper.wp P o a w K Q else E :=
  step_append_run hg s x t u hop hs hx hrun (by rw [hd]; exact hK)
theorem few_len {l : List Kd} (h : few l = true) : l.length ≤ 70 := by
  simp only [few, Bool.and_eq_true, decide_eq_true_eq] at h
  exact h.1
theorem few_rot (l : List Kd) (k : Nat) : few (l.drop k ++ l.take k) = few l := by
  have e : (l.drop k ++ l.take k).length = l.length := by simp; omega
  have e2 : (l.drop k ++ l.take k).all fewK = l.all fewK := by rw [all_rot, List.take_append_drop]
  simp only [few, e, e2]
theorem few_alike {l m : List Kd} (h : RuleFacts.Alike l m) : few l = few m := by
  have e2 : l.all fewK = m.all fewK := all_alike h fewK fun n a b => by
    simp only [fewK, all_rot fewR a b, List.length_append, Nat.add_comm b.length a.length]
  simp only [few, h.1, e2]
theorem slice_l (ad : Addr) (n c k : Nat) (hk : k < n) (hc : n ≤ c) (w : World) : (Instr.slice 23 (.slice (some ad) n c) (some (.int .i64 (k : Int))) none none).run Tryd.prog w = .ok (.slice (some (ad.add (k * 2))) (n - k) (c - k)) w := by
  rw [run_slice_l w 23 (some ad) n c under_k .i64 (k : Int) (by omega) (by omega), size_k]
  have h1 : ¬ c = k := by omega
  simp [sliced, Result.andThen, h1]
theorem slice_h (ad : Addr) (n c k : Nat) (hk : k ≤ c) (w : World) : (Instr.slice 23 (.slice (some ad) n c) none (some (.int .i64 (k : Int))) none).run Tryd.prog w = .ok (.slice (some ad) k c) w := by
  rw [run_slice_h w 23 (some ad) n c under_k .i64 (k : Int) (by omega) (by omega), size_k]
  simp [sliced, Result.andThen, Addr.add]
theorem few_rules {l : List Kd} (h : few l = true) {k : Kd} (hk : k ∈ l) : k.rules.length ≤ 70 := by
  simp only [few, Bool.and_eq_true, List.all_eq_true] at h
  have := h.2 k hk
  simp only [fewK, Bool.and_eq_true, decide_eq_true_eq] at this
  exact this.1.1
theorem under_r : Tryd.prog.underlying 40 = some (.slice (Tryd.prog.elem 40)) := by kernel_rfl
set_option maxRecDepth 100000 in
theorem size_r (w : World) : (sizeOf (Tryd.prog.elem 40)).run Tryd.prog w = .ok 5 w := by
  have h : (Tryd.prog.info? (Tryd.prog.elem 40)).map (fun i => i.size) = some 5 := by kernel_rfl
  cases hi : Tryd.prog.info? (Tryd.prog.elem 40) with
  | none => rw [hi] at h; cases h
  | some i => rw [hi] at h; injection h with h; simp [sizeOf, typeInfo, hi, h]
theorem slice_lr (ad : Addr) (n c k : Nat) (hk : k < n) (hc : n ≤ c) (w : World) : (Instr.slice 40 (.slice (some ad) n c) (some (.int .i64 (k : Int))) none none).run Tryd.prog w = .ok (.slice (some (ad.add (k * 5))) (n - k) (c - k)) w := by
  rw [run_slice_l w 40 (some ad) n c under_r .i64 (k : Int) (by omega) (by omega), size_r]
  have h1 : ¬ c = k := by omega
  simp [sliced, Result.andThen, h1]
theorem slice_hr (ad : Addr) (n c k : Nat) (hk : k ≤ c) (w : World) : (Instr.slice 40 (.slice (some ad) n c) none (some (.int .i64 (k : Int))) none).run Tryd.prog w = .ok (.slice (some ad) k c) w := by
  rw [run_slice_h w 40 (some ad) n c under_r .i64 (k : Int) (by omega) (by omega), size_r]
  simp [sliced, Result.andThen, Addr.add]
set_option maxRecDepth 100000 in
set_option maxHeartbeats 25600000 in
theorem turned_any (X : Specs) (A : Option Addr) (c : Nat) (l : List Kd) (at_ : Nat) (hat : (at_ : Int) ≤ 255) (W : World) (hG : Gl W) (hS : SlOf W W.heap.size 2 (fun k q => LayK W W.heap.size k q ∧ KCap q) A l) (hL : LayL W W.heap.size A l) (hn : l.length ≤ maxLen) (hc : l.length ≤ c) : Calls Tryd.prog 6 #[.slice A l.length c, .int .u8 (at_ : Int)] W (Law W) := by
  have HL := Lib.hid (fun (w' : World) (hw' : Below W.heap.size W w') => hL.later hw')
  clear hL
  have HGL := Lib.hid (fun (w' : World) (hw' : Below W.heap.size W w') => hG.later hw')
  clear hG
  unfold Law
  go_enter Tryd.func6, Tryd.ntmps6
  have hcall := RuleAwake.awake_any X W (HGL.out W (Below.refl _ _))
  unfold Law at hcall
  go_wp2_with fail
  (with_reducible refine hcall.mono ?_)
  clear hcall
  rintro e w1 ⟨rfl, bb⟩
  have HB1 := Lib.hid bb
  clear bb
  have hcall := RuleFew.refFew_any A c l w1 (HL.out w1 HB1.out) hn
  obtain ⟨fb, hfb⟩ : ∃ v, few l = v := ⟨_, rfl⟩
  rw [hfb] at hcall
  have HF := Lib.hid hfb
  clear hfb
  go_wp2_with fail
  (with_reducible refine hcall.mono ?_)
  clear hcall
  rintro e w2 ⟨rfl, bb⟩
  have HB2 := Lib.hid (HB1.out.trans (bb.mono HB1.out.size))
  clear bb
  cases fb with
  | false =>
    have hcall := RuleAwake.awake_any X w2 (HGL.out w2 HB2.out)
    unfold Law at hcall
    go_wp2_with fail
    (with_reducible refine hcall.mono ?_)
    clear hcall
    rintro e w8 ⟨rfl, bb⟩
    have HB8 := Lib.hid (HB2.out.trans (bb.mono HB2.out.size))
    clear bb
    go_wp2_with fail
    go_ret
    exact ⟨rfl, HB8.out⟩
  | true =>
    by_cases hl0 : l.length = 0
    · have il : ((l.length : Int) == 0) = true := by rw [beq_iff_eq]; omega
      clear hl0
      have hcall := RuleAwake.awake_any X w2 (HGL.out w2 HB2.out)
      unfold Law at hcall
      go_wp2_with fail
      (with_reducible refine hcall.mono ?_)
      clear hcall
      rintro e w8 ⟨rfl, bb⟩
      have HB8 := Lib.hid (HB2.out.trans (bb.mono HB2.out.size))
      clear bb
      go_wp2_with fail
      go_ret
      exact ⟨rfl, HB8.out⟩
    have il : ((l.length : Int) == 0) = false := by rw [beq_eq_false_iff_ne]; omega
    have hl70 := few_len HF.out
    obtain ⟨k, hk⟩ : ∃ v, v = at_ % l.length := ⟨_, rfl⟩
    have hkl : k < l.length := by rw [hk]; exact Nat.mod_lt _ (by omega)
    have hrem : ((at_ : Int)).tmod (l.length : Int) = (k : Int) := by rw [hk]; rfl
    have inz : ¬ ((l.length : Int) = 0) := by omega
    obtain ⟨ad, rfl⟩ : ∃ ad, A = some ad := by obtain ⟨q, hq⟩ := hS; obtain ⟨⟨ad, hA, _⟩, _⟩ := hq 0 (by omega); exact ⟨ad, hA⟩
    have HS := Lib.hid hS
    clear hk hS
    go_upto_region 4 with fail
    have hsl := fun w => slice_l ad l.length c k (by omega) (by omega) w
    have hsh := fun w => slice_h ad l.length c k (by omega) w
    refine wp_region_any (by kernel_rfl) ?_
    change wpAny _ _ _ _ _ _ _ (World.drew _)
    obtain ⟨A1, c1, u1, g, c2, u2, hr1, hr2, hWg, hgl, hM, hb2⟩ := turn_kinds (c := c) HS.out (show Below W.heap.size W (World.drew w2) from HB2.out.drew) hkl (by omega)
    refine Reg.take_at (i := 1) (d := 29) (v := ?_) rfl rfl (by kernel_rfl) (by kernel_rfl) (by kernel_rfl) (fun _ _ _ h => h) (Or.inl ⟨by rfl, ?_⟩) ?_
    rotate_left 1
    · intro w; go_simp <;> with_reducible rfl
    simp only [Act.put, List.setIfInBounds_toArray, List.set_cons_zero, List.set_cons_succ]
    refine Reg.take_at (i := 2) (d := 30) (v := ?_) rfl rfl (by kernel_rfl) (by kernel_rfl) (by kernel_rfl) (fun _ _ _ h => h) (Or.inl ⟨by rfl, ?_⟩) ?_
    rotate_left 1
    · intro w; go_simp <;> with_reducible rfl
    simp only [Act.put, List.setIfInBounds_toArray, List.set_cons_zero, List.set_cons_succ]
    refine Reg.take_at (i := 3) (d := 31) (v := ?_) rfl rfl (by kernel_rfl) (by kernel_rfl) (by kernel_rfl) (fun _ _ _ h => h) (Or.inl ⟨by rfl, ?_⟩) ?_
    rotate_left 1
    · intro w; go_simp <;> with_reducible rfl
    simp only [Act.put, List.setIfInBounds_toArray, List.set_cons_zero, List.set_cons_succ]
    refine Reg.take_at (i := 5) (d := 33) (v := ?_) rfl rfl (by kernel_rfl) (by kernel_rfl) (by kernel_rfl) (fun _ _ _ h => h) (Or.inl ⟨by rfl, ?_⟩) ?_
    rotate_left 1
    · intro w; go_simp <;> with_reducible rfl
    simp only [Act.put, List.setIfInBounds_toArray, List.set_cons_zero, List.set_cons_succ]
    refine Reg.take_at (i := 6) (d := 34) (v := ?_) rfl rfl (by kernel_rfl) (by kernel_rfl) (by kernel_rfl) (fun _ _ _ h => h) (Or.inl ⟨by rfl, ?_⟩) ?_
    rotate_left 1
    · intro w; go_simp <;> with_reducible rfl
    simp only [Act.put, List.setIfInBounds_toArray, List.set_cons_zero, List.set_cons_succ]
    refine Reg.take_at (i := 7) (d := 35) (v := ?_) rfl rfl (by kernel_rfl) (by kernel_rfl) (by kernel_rfl) (fun _ _ _ h => h) (Or.inl ⟨by rfl, ?_⟩) ?_
    rotate_left 1
    · intro w; go_simp <;> with_reducible rfl
    simp only [Act.put, List.setIfInBounds_toArray, List.set_cons_zero, List.set_cons_succ]
    refine wpAny_ready (rs := [0]) (by decide +kernel) (by simp) ?_
    refine AllReady.cons rfl (fun KK hK => ?_) AllReady.nil
    go_simp
    refine hK _ _ ?_
    clear hK KK
    refine wpAny_ready (rs := [4]) (by decide +kernel) (by simp) ?_
    refine AllReady.cons rfl (fun KK hK => ?_) AllReady.nil
    refine step_append_d (d := 32) rfl rfl (.tmp 28) (.tmp 31) 23 23 rfl (vs := _) (vx := _) (by simp [Act.eval]) (by simp [Act.eval]) hr1 ?_
    refine hK _ _ ?_
    clear hK KK
    refine wpAny_ready (rs := [8]) (by decide +kernel) (by simp) ?_
    refine AllReady.cons rfl (fun KK hK => ?_) AllReady.nil
    refine step_append_d (d := 36) rfl rfl (.tmp 32) (.tmp 35) 23 23 rfl (vs := _) (vx := _) (by simp [Act.eval, Act.put]) (by simp [Act.eval, Act.put]) hr2 ?_
    refine hK _ _ ?_
    clear hK KK
    refine Reg.take_at (i := 9) (d := 6) (v := ?_) rfl rfl (by kernel_rfl) (by kernel_rfl) (by kernel_rfl) (fun _ _ _ h => h) (Or.inl ⟨by rfl, ?_⟩) ?_
    rotate_left 1
    · intro w; go_simp <;> with_reducible rfl
    simp only [Act.put, List.setIfInBounds_toArray, List.set_cons_zero, List.set_cons_succ]
    refine wpAny_done (by kernel_rfl) ?_ _
    have HB3 := Lib.hid (Below.step HB2.out.drew hb2)
    obtain ⟨ms, hms⟩ : ∃ v, v = l.drop k ++ l.take k := ⟨_, rfl⟩
    rw [← hms] at hM
    have hml : ms.length = l.length := by rw [hms]; simp; omega
    have HFM := Lib.hid (show few ms = true from by rw [hms, few_rot]; exact HF.out)
    have HCM := Lib.hid (show checkC ms = checkC l from by rw [hms, checkC_rot, List.take_append_drop])
    have HBM := Lib.hid (show butK ms = butK l from by rw [hms, but_rot, List.take_append_drop])
    have hMS := Lib.hid hms
    clear hr1 hr2 hsl hsh hb2 hms
    go_wp2_with fail
    go_loopw [7, 8, 9] (fun i z1 z2 wr => z1 = z1 ∧ z2 = z2 ∧ ∃ j : Nat, j ≤ l.length ∧ i = .int .i64 j ∧ MR W wr g j ms ∧ Below W.heap.size W wr ∧ g < wr.heap.size) (fun i _ _ _ => l.length - (intOf i).toNat)
    case atStart => exact ⟨rfl, rfl, 0, by omega, rfl, hM, HB3.out, hgl⟩
    case round =>
      obtain ⟨_, _, j, hj, rfl, hMR, hB, hg⟩ := hrel
      have HMR := Lib.hid hMR
      have HBW := Lib.hid hB
      have HG := Lib.hid hg
      by_cases hlt : j < l.length
      rotate_left
      · obtain rfl : j = l.length := by omega
        obtain ⟨m, hm1, hm2, hm3⟩ := MR.done (by rw [hml]; exact hMR) hB fun k hk => Nat.le_trans (few_rules HFM.out hk) (by simp only [maxLen]; omega)
        have hni : ¬ (l.length : Int) < (l.length : Int) := by omega
        have HFX := Lib.hid (show few m = true from by rw [← few_alike hm3]; exact HFM.out)
        have HLX := Lib.hid (fun (w' : World) (hw' : Below wr.heap.size wr w') => hm2.later hw')
        have hcall := X.cCheck (some ⟨g, 0, none⟩) c2 m wr HFX.out (HGL.out wr HBW.out) (HLX.out wr (Below.refl _ _))
        have hcb := fun w' hw' => X.cBut (some ⟨g, 0, none⟩) c2 m w' HFX.out (HLX.out w' hw')
        rw [hm1, hml, ← checkC_alike hm3, HCM.out] at hcall
        simp only [hm1, hml, ← but_alike hm3, HBM.out] at hcb
        have HCB := Lib.hid hcb
        clear hcb hm1 hm2 hm3 hMR hB hg hj hlt
        have HCL := Lib.hid (fun w' hw' => X.cCheck (some ad) c l w' HF.out (HGL.out w' hw') (HL.out w' hw'))
        have HBL := Lib.hid (fun w' hw' => X.cBut (some ad) c l w' HF.out (HL.out w' hw'))
        generalize checkC l = ck at *
        generalize butK l = bk at *
        have hqc : (ck == ck) = true := beq_self_eq_true _
        have hqb : (bk == bk) = true := beq_self_eq_true _
        go_wp2_with fail
        (with_reducible refine hcall.mono ?_)
        clear hcall
        rintro e w4 ⟨rfl, bb⟩
        have HB4 := Lib.hid bb
        clear bb
        have hcall := HCL.out w4 (HBW.out.trans (HB4.out.mono HBW.out.size))
        go_wp2_with fail
        (with_reducible refine hcall.mono ?_)
        clear hcall
        rintro e w5 ⟨rfl, bb⟩
        have HB5 := Lib.hid (Below.step HB4.out bb)
        clear bb
        have hcall := HCB.out w5 HB5.out
        go_wp2_with fail
        (with_reducible refine hcall.mono ?_)
        clear hcall
        rintro e w6 ⟨rfl, bb⟩
        have HB6 := Lib.hid (Below.step HB5.out bb)
        clear bb
        have hcall := HBL.out w6 (HBW.out.trans (HB6.out.mono HBW.out.size))
        go_wp2_with fail
        (with_reducible refine hcall.mono ?_)
        clear hcall
        rintro e w7 ⟨rfl, bb⟩
        have HB7 := Lib.hid (Below.step HB6.out bb)
        clear bb
        go_wp2_with fail
        go_ret
        exact ⟨rfl, HBW.out.trans (HB7.out.mono HBW.out.size)⟩
      obtain ⟨K, c3, hcell, hfz, hcap, hRK⟩ := hMR.get (i := j) (by omega)
      have hr70 := few_rules HFM.out (List.getElem_mem (show j < ms.length by omega))
      obtain ⟨rs, hrs⟩ : ∃ v, v = (ms[j]).rules := ⟨_, rfl⟩
      rw [← hrs] at hcell hcap hRK hr70
      have HRS := Lib.hid hrs
      have HRK := Lib.hid hRK
      have HJ := Lib.hid (Nat.not_le_of_lt hlt)
      clear hrs hRK hMR hB
      have ijl : (j : Int) < (l.length : Int) := by omega
      by_cases hr0 : rs.length = 0
      · have in0 : ¬ (0 : Int) < (rs.length : Int) := by omega
        clear hr0 hfz
        go_wp2_with fail
        go_roundw
        case rel => exact ⟨trivial, trivial, j + 1, by have := HJ.out; omega, by go_num, HMR.out.skip, HBW.out, HG.out⟩
        case measure => have := HJ.out; simp [intOf]; omega
      · have in0 : (0 : Int) < (rs.length : Int) := by omega
        obtain ⟨n, hne⟩ : ∃ v, v = at_ % rs.length := ⟨_, rfl⟩
        have hnr : n < rs.length := by rw [hne]; exact Nat.mod_lt _ (by omega)
        have hrem2 : ((at_ : Int)).tmod (rs.length : Int) = (n : Int) := by rw [hne]; rfl
        have inz2 : ¬ ((rs.length : Int) = 0) := by omega
        clear hne hr0
        obtain ⟨ad5, rfl⟩ : ∃ ad, K = some ad := by obtain ⟨q, hq⟩ := HRK.out; obtain ⟨⟨ad, hA, _⟩, _⟩ := hq 0 (by omega); exact ⟨ad, hA⟩
        have hsl := fun w => slice_lr ad5 rs.length c3 n (by omega) (by omega) w
        have hsh := fun w => slice_hr ad5 rs.length c3 n (by omega) w
        go_upto_region 11 with fail
        clear hcell hfz
        refine wp_region_any (by kernel_rfl) ?_
        change wpAny _ _ _ _ _ _ _ (World.drew _)
        obtain ⟨ad6, he6, A5, c5, v1, A6, c6, v2, hr5, hr6, hcp, hRK2, hb6⟩ := turn_rules (c := c3) (HRK.out.later (show Below wr.heap.size wr (World.drew wr) from (Below.refl _ _).drew)) HG.out hnr (by omega)
        obtain rfl := Option.some.inj he6
        clear he6
        have hbv : Below wr.heap.size wr v2 := Below.step (show Below wr.heap.size wr (World.drew wr) from (Below.refl _ _).drew) hb6
        obtain ⟨K9, c9, hcell, hfz, _, _⟩ := (HMR.out.later hbv).get (i := j) (by omega)
        have HST := Lib.hid ((HMR.out.later hbv).set (i := j) (by omega) (K := A6) (c := c6) (a := rs.take n) (b := rs.drop n) (by rw [← HRS.out, List.take_append_drop]) (by rw [← HRS.out]; exact hcp) hRK2)
        rw [← HRS.out] at HST
        have HBV := Lib.hid (HBW.out.trans (hbv.mono HBW.out.size))
        have HGV := Lib.hid (Nat.lt_of_lt_of_le HG.out hbv.size)
        clear hRK2 hb6 hcp hbv
        refine Reg.take_at (i := 0) (d := 56) (v := ?_) rfl rfl (by kernel_rfl) (by kernel_rfl) (by kernel_rfl) (fun _ _ _ h => h) (Or.inl ⟨by rfl, ?_⟩) ?_
        rotate_left 1
        · intro w; go_simp <;> with_reducible rfl
        simp only [Act.put, List.setIfInBounds_toArray, List.set_cons_zero, List.set_cons_succ]
        refine Reg.take_at (i := 1) (d := 57) (v := ?_) rfl rfl (by kernel_rfl) (by kernel_rfl) (by kernel_rfl) (fun _ _ _ h => h) (Or.inl ⟨by rfl, ?_⟩) ?_
        rotate_left 1
        · intro w; go_simp <;> with_reducible rfl
        simp only [Act.put, List.setIfInBounds_toArray, List.set_cons_zero, List.set_cons_succ]
        refine Reg.take_at (i := 3) (d := 59) (v := ?_) rfl rfl (by kernel_rfl) (by kernel_rfl) (by kernel_rfl) (fun _ _ _ h => h) (Or.inl ⟨by rfl, ?_⟩) ?_
        rotate_left 1
        · intro w; go_simp <;> with_reducible rfl
        simp only [Act.put, List.setIfInBounds_toArray, List.set_cons_zero, List.set_cons_succ]
        refine Reg.take_at (i := 4) (d := 60) (v := ?_) rfl rfl (by kernel_rfl) (by kernel_rfl) (by kernel_rfl) (fun _ _ _ h => h) (Or.inl ⟨by rfl, ?_⟩) ?_
        rotate_left 1
        · intro w; go_simp <;> with_reducible rfl
        simp only [Act.put, List.setIfInBounds_toArray, List.set_cons_zero, List.set_cons_succ]
        refine Reg.take_at (i := 5) (d := 61) (v := ?_) rfl rfl (by kernel_rfl) (by kernel_rfl) (by kernel_rfl) (fun _ _ _ h => h) (Or.inl ⟨by rfl, ?_⟩) ?_
        rotate_left 1
        · intro w; go_simp <;> with_reducible rfl
        simp only [Act.put, List.setIfInBounds_toArray, List.set_cons_zero, List.set_cons_succ]
        refine Reg.take_at (i := 7) (d := 63) (v := ?_) rfl rfl (by kernel_rfl) (by kernel_rfl) (by kernel_rfl) (fun _ _ _ h => h) (Or.inl ⟨by rfl, ?_⟩) ?_
        rotate_left 1
        · intro w; go_simp <;> with_reducible rfl
        simp only [Act.put, List.setIfInBounds_toArray, List.set_cons_zero, List.set_cons_succ]
        refine Reg.take_at (i := 8) (d := 64) (v := ?_) rfl rfl (by kernel_rfl) (by kernel_rfl) (by kernel_rfl) (fun _ _ _ h => h) (Or.inl ⟨by rfl, ?_⟩) ?_
        rotate_left 1
        · intro w; go_simp <;> with_reducible rfl
        simp only [Act.put, List.setIfInBounds_toArray, List.set_cons_zero, List.set_cons_succ]
        refine Reg.take_at (i := 9) (d := 65) (v := ?_) rfl rfl (by kernel_rfl) (by kernel_rfl) (by kernel_rfl) (fun _ _ _ h => h) (Or.inl ⟨by rfl, ?_⟩) ?_
        rotate_left 1
        · intro w; go_simp <;> with_reducible rfl
        simp only [Act.put, List.setIfInBounds_toArray, List.set_cons_zero, List.set_cons_succ]
        refine wpAny_ready (rs := [2]) (by decide +kernel) (by simp) ?_
        refine AllReady.cons rfl (fun KK hK => ?_) AllReady.nil
        go_simp
        refine hK _ _ ?_
        clear hK KK
        refine wpAny_ready (rs := [6]) (by decide +kernel) (by simp) ?_
        refine AllReady.cons rfl (fun KK hK => ?_) AllReady.nil
        refine step_append_d (d := 62) rfl rfl (.tmp 58) (.tmp 61) 40 40 rfl (vs := _) (vx := _) (by simp [Act.eval]) (by simp [Act.eval]) hr5 ?_
        refine hK _ _ ?_
        clear hK KK
        refine wpAny_ready (rs := [10]) (by decide +kernel) (by simp) ?_
        refine AllReady.cons rfl (fun KK hK => ?_) AllReady.nil
        refine step_append_d (d := 66) rfl rfl (.tmp 62) (.tmp 65) 40 40 rfl (vs := _) (vx := _) (by simp [Act.eval, Act.put]) (by simp [Act.eval, Act.put]) hr6 ?_
        refine hK _ _ ?_
        clear hK KK
        refine Reg.take_at (i := 11) (d := 67) (v := ?_) rfl rfl (by kernel_rfl) (by kernel_rfl) (by kernel_rfl) (fun _ _ _ h => h) (Or.inl ⟨by rfl, ?_⟩) ?_
        rotate_left 1
        · intro w; go_simp <;> with_reducible rfl
        simp only [Act.put, List.setIfInBounds_toArray, List.set_cons_zero, List.set_cons_succ]
        refine Reg.take_at (i := 12) (d := 68) (v := ?_) rfl rfl (by kernel_rfl) (by kernel_rfl) (by kernel_rfl) (fun _ _ _ h => h) (Or.inl ⟨by rfl, ?_⟩) ?_
        rotate_left 1
        · intro w; go_simp <;> with_reducible rfl
        simp only [Act.put, List.setIfInBounds_toArray, List.set_cons_zero, List.set_cons_succ]
        refine wpAny_ready (rs := [13]) (by decide +kernel) (by simp) ?_
        refine AllReady.cons rfl (fun KK hK => ?_) AllReady.nil
        go_simp
        refine hK _ _ ?_
        clear hK KK
        refine wpAny_done (by kernel_rfl) ?_ _
        clear hr5 hr6 hcell hfz
        go_wp2_with fail
        go_roundw
        case rel => exact ⟨trivial, trivial, j + 1, by have := HJ.out; omega, by go_num, HST.out, HBV.out.setCell hWg _, by simp [World.setCell]; exact HGV.out⟩
        case measure => have := HJ.out; simp [intOf]; omega
end Go.Proofs.YtkmnbdomikpakaaDoor.RuleTurned
