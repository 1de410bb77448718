/- The walk of FreeEither. -/
import Derived.Test.YtffbmabhlgfjkaaFreeLaw
import Derived.Test.YtffbmabhlgfjkaaFreeNew
import Derived.Test.YtffbmabhlgfjkaaInv2
import Derived.Test.YtffbmabhlgfjkaaFrames
namespace Go.Proofs.Ytffbmabhlgfjkaa.FreeEither
open Go.RowKit Base FreePlain FreePlain2 FreeMem FreeRefCheck FreeRefPut FreeCheck FreeSl FreePut FreeFind FreeAwake FreeLaw FreeNew

def EmpW (v : Value) (_ : World) : Prop := Emp v
theorem EmpW.below {v : Value} {w w' : World} (h : EmpW v w) (_ : Below w.heap.size w w') : EmpW v w' := h
theorem step_append_g {P : Program} {w : World} {ops : Array Oper} {o : Oper} {a : Act} {K : Act → World → Prop} {Q : Exit → Act → World → Prop} {E : Prop} {d : Tmp} (hw : Region.wanted o (yielded ops a.tmps) = true) (hd : o.dst = some d) (s x : Operand) (t u : TypeId)
    (hop : o.op = Op.call { callee := Callee.builtin Builtin.append, args := #[s, x], argTypes := #[t, u] }) {vs vx v : Value} {w' : World} (hs : a.eval s = vs) (hx : a.eval x = vx)
    (hrun : (Builtin.append_ #[t, u] o.type #[vs, vx]).run P w = .ok v w') (hK : K (a.put (some d) v) w') : if Region.wanted o (yielded ops a.tmps) = true then Oper.wp P o a w K Q else E := by
  have hK' : K (a.put o.dst v) w' := by rw [hd]; exact hK
  rw [if_pos hw]
  unfold Oper.wp
  simp [execOp, hop, resolve, invoke, builtin, hs, hx, hrun, Result.andThen]
  exact hK'
/-- two boxed pages -/
structure Two2 (g : Nat) (x1 y1 x2 y2 : Int) (W w : World) : Prop where
  a0 : w.cell? ⟨g, 0, none⟩ = some (.int .i64 x1)
  a1 : w.cell? ⟨g, 1, none⟩ = some (.int .i64 y1)
  b0 : w.cell? ⟨g + 1, 0, none⟩ = some (.int .i64 x2)
  b1 : w.cell? ⟨g + 1, 1, none⟩ = some (.int .i64 y2)
  lt : g + 1 < w.heap.size
  base : Below W.heap.size W w
theorem Two2.below {g : Nat} {x1 y1 x2 y2 : Int} {W w w' : World} (h : Two2 g x1 y1 x2 y2 W w) (hb : Below w.heap.size w w') : Two2 g x1 y1 x2 y2 W w' := by
  obtain ⟨a0, a1, b0, b1, lt, base⟩ := h
  have hg : g < w.heap.size := by omega
  exact ⟨(hb.cell (p := ⟨g, 0, none⟩) hg).trans a0, (hb.cell (p := ⟨g, 1, none⟩) hg).trans a1, (hb.cell (p := ⟨g + 1, 0, none⟩) lt).trans b0, (hb.cell (p := ⟨g + 1, 1, none⟩) lt).trans b1, Nat.lt_of_lt_of_le lt hb.size, bst base base.size hb⟩
set_option maxRecDepth 100000 in
set_option maxHeartbeats 12800000 in
theorem FreeEither_walk (A : Option Addr) (c : Nat) (l : Fs) (x1 y1 x2 y2 : Int) (W : World) (hr : Row W W.heap.size A (fr l)) (hn : l.length ≤ maxLen) :
    Calls Try.prog 8 #[.slice A l.length c, .agg #[.int .i64 x1, .int .i64 y1], .agg #[.int .i64 x2, .int .i64 y2]] W (Law W) := by
  have HR := Lib.hid hr
  clear hr
  unfold Law
  simp only [maxLen] at hn
  obtain ⟨w0, hw0⟩ : ∃ w0, w0 = (W.alloc (.cells #[.int .i64 x1, .int .i64 y1] 25)).alloc (.cells #[.int .i64 x2, .int .i64 y2] 25) := ⟨_, rfl⟩
  have HT0 := Lib.hid (show Two2 W.heap.size x1 y1 x2 y2 W w0 by
    rw [hw0]
    refine ⟨by simp, by simp, by simp, by simp, by simp, bst (al W _) (al W _).size (al _ _)⟩)
  have HW0 := Lib.hid hw0
  clear hw0
  by_cases h1 : 200 < l.length
  · go_enter Try.func8, Try.ntmps8
    go_wp2_with fail
    rw [← HW0.out]
    have hT := HT0.out
    refine (awake_any w0).mono ?_
    rintro e' w9 ⟨rfl, b9⟩
    have hB := (hT.below b9).base
    go_wp2_with fail
    go_ret
    exact ⟨rfl, hB⟩
  · have hl200 : l.length ≤ 200 := by omega
    have hn1 : (200 < l.length) = False := by simp; omega
    clear h1
    by_cases hg : Gd l
    · have HG := Lib.hid hg
      have HU := Lib.hid hg.2
      by_cases hf1 : Fit (x1, y1)
      · have HF1 := Lib.hid hf1
        clear hg hf1
        by_cases hf2 : Fit (x2, y2)
        · have HF2 := Lib.hid hf2
          clear hf2
          go_enter Try.func8, Try.ntmps8
          go_wp2_with fail
          rw [← HW0.out]
          have hT := HT0.out
          have hc1 := rcheck_any w0 A l.length c l true rfl (HR.out.belowSize hT.base) (by omega) (iff_of_true rfl HG.out)
          (with_reducible refine hc1.mono ?_)
          rintro e' w1 ⟨rfl, hb1⟩
          clear hc1
          have hT := hT.below hb1
          obtain ⟨v2, hv2⟩ : ∃ v, v = w1.alloc (.cells #[.int .i64 x1, .int .i64 y1] 25) := ⟨_, rfl⟩
          have hrow2 : Row v2 v2.heap.size (some ⟨w1.heap.size, 0, none⟩) (fr [(x1, y1)]) := by rw [hv2]; exact row_item w1 (x1, y1)
          have hc2 := rcheck_any v2 (some ⟨w1.heap.size, 0, none⟩) 1 1 [(x1, y1)] true rfl hrow2 (by simp) (iff_of_true rfl (gd_one.2 HF1.out))
          have hTv2 : Two2 W.heap.size x1 y1 x2 y2 W v2 := by rw [hv2]; exact hT.below (al _ _)
          have HV2 := Lib.hid hv2
          clear hv2 hrow2
          have cc0 := hT.a0
          have cc1 := hT.a1
          have cc2 := hT.b0
          have cc3 := hT.b1
          go_wp2_with fail
          rw [← HV2.out]
          (with_reducible refine hc2.mono ?_)
          rintro e' w2 ⟨rfl, hb2⟩
          clear hc2 cc0 cc1 cc2 cc3
          have hT := hTv2.below hb2
          clear hTv2
          obtain ⟨v3, hv3⟩ : ∃ v, v = w2.alloc (.cells #[.int .i64 x2, .int .i64 y2] 25) := ⟨_, rfl⟩
          have hrow3 : Row v3 v3.heap.size (some ⟨w2.heap.size, 0, none⟩) (fr [(x2, y2)]) := by rw [hv3]; exact row_item w2 (x2, y2)
          have hc3 := rcheck_any v3 (some ⟨w2.heap.size, 0, none⟩) 1 1 [(x2, y2)] true rfl hrow3 (by simp) (iff_of_true rfl (gd_one.2 HF2.out))
          have hTv3 : Two2 W.heap.size x1 y1 x2 y2 W v3 := by rw [hv3]; exact hT.below (al _ _)
          have HV3 := Lib.hid hv3
          clear hv3 hrow3
          have cc0 := hT.a0
          have cc1 := hT.a1
          have cc2 := hT.b0
          have cc3 := hT.b1
          go_wp2_with fail
          rw [← HV3.out]
          (with_reducible refine hc3.mono ?_)
          rintro e' w3 ⟨rfl, hb3⟩
          clear hc3 cc0 cc1 cc2 cc3
          have hT := hTv3.below hb3
          clear hTv3
          have cc0 := hT.a0
          have cc1 := hT.a1
          have cc2 := hT.b0
          have cc3 := hT.b1
          go_wp2_with fail
          clear cc0 cc1 cc2 cc3
          have hJ0 : (fun w' : World => Two2 W.heap.size x1 y1 x2 y2 W w') (World.drew w3) := hT.below (Below.refl _ _).drew
          clear hT HT0 HW0 HV2 HV3
          skip
          refine wp_region_any (by kernel_rfl) ?_
          change wpAny _ _ _ _ _ _ _ (World.drew _)
          refine Inv.inv_any (fun (i : Nat) (v : Value) (w : World) => match i with | 0 => EmpW v w | 1 => v = .slice A l.length c | 2 => SlF (l) v w | 3 => v = .pointer (some ⟨W.heap.size, 0, none⟩) | 4 => v = .int .i64 x1 | 5 => v = .pointer (some ⟨W.heap.size, 1, none⟩) | 6 => v = .int .i64 y1 | 7 => SlF (ins x1 y1 l) v w | 8 => v = .pointer (some ⟨W.heap.size + 1, 0, none⟩) | 9 => v = .int .i64 x2 | 10 => v = .pointer (some ⟨W.heap.size + 1, 1, none⟩) | 11 => v = .int .i64 y2 | 12 => SlF (ins x2 y2 (ins x1 y1 l)) v w | _ => True) (fun w' : World => Two2 W.heap.size x1 y1 x2 y2 W w') _ 13 80 rfl rfl rfl (by kernel_rfl) (by kernel_rfl) hJ0 ?_ ?_ ?_ ?_
          · intro j v w w' h hb
            match j, h with
            | 0, h => exact EmpW.below h hb
            | 1, h => exact h
            | 2, h => exact SlF.below h hb
            | 3, h => exact h
            | 4, h => exact h
            | 5, h => exact h
            | 6, h => exact h
            | 7, h => exact SlF.below h hb
            | 8, h => exact h
            | 9, h => exact h
            | 10, h => exact h
            | 11, h => exact h
            | 12, h => exact SlF.below h hb
            | 13, _ => exact trivial
            | (_ + 14), _ => exact trivial
          · skip
            refine Inv.from_cons _ _ _ _ rfl (fun _ a w hJ hF F K hK => ?_) ?_
            · have hz : a.tmps.size = 80 := hF.size
              clear F hF hz
              have hJ1 := hJ
              obtain ⟨c0, c1, c2, c3, _, _⟩ := hJ1
              go_simp
              exact hK _ _ (hJ.below (al _ _)) (al _ _) ⟨_, rfl⟩
            refine Inv.from_cons _ _ _ _ rfl (fun _ a w hJ hF F K hK => ?_) ?_
            · have hz : a.tmps.size = 80 := hF.size
              have e0 : a.tmps[0]? = some (.slice A l.length c) := Inv2.some_slot (by rw [hz]; exact Nat.le_of_ble_eq_true rfl) (hF.slot 0 (by kernel_rfl))
              clear F hF hz
              have hJ1 := hJ
              obtain ⟨c0, c1, c2, c3, _, _⟩ := hJ1
              go_simp
              exact hK (.slice A l.length c) _ hJ (Below.refl _ _) rfl
            refine Inv.from_cons _ _ _ _ rfl (fun _ a w hJ hF F K hK => ?_) ?_
            · have hz : a.tmps.size = 80 := hF.size
              obtain ⟨x30, e30, f0⟩ : ∃ x, a.tmps[30]? = some x ∧ EmpW x w := ⟨_, Inv2.some_slot (by rw [hz]; exact Nat.le_of_ble_eq_true rfl) rfl, F 0 (by kernel_rfl) 30 rfl⟩
              have e31 : a.tmps[31]? = some (.slice A l.length c) := Inv2.some_slot (by rw [hz]; exact Nat.le_of_ble_eq_true rfl) (F 1 (by kernel_rfl) 31 rfl)
              clear F hF hz
              have hJ1 := hJ
              obtain ⟨c0, c1, c2, c3, _, _⟩ := hJ1
              obtain ⟨g7, rfl⟩ := f0
              obtain ⟨A', c', w', hrun, hsl, hbl⟩ := append_new g7 (n := l.length) (c := c) rfl (HR.out.belowSize hJ.base) (by omega)
              refine FreeCellsOf.step_append_d (d := 32) rfl rfl (.tmp 30) (.tmp 31) 22 22 rfl (vs := .slice (some ⟨g7, 0, none⟩) 0 0) (vx := .slice A l.length c) (by simp [Act.eval, e30]) (by simp [Act.eval, e31]) hrun ?_
              exact hK _ _ (hJ.below hbl) hbl hsl
            refine Inv.from_cons _ _ _ _ rfl (fun _ a w hJ hF F K hK => ?_) ?_
            · have hz : a.tmps.size = 80 := hF.size
              have e4 : a.tmps[4]? = some (.pointer (some ⟨W.heap.size, 0, none⟩)) := Inv2.some_slot (by rw [hz]; exact Nat.le_of_ble_eq_true rfl) (hF.slot 4 (by kernel_rfl))
              clear F hF hz
              have hJ1 := hJ
              obtain ⟨c0, c1, c2, c3, _, _⟩ := hJ1
              go_simp
              exact hK (.pointer (some ⟨W.heap.size, 0, none⟩)) _ hJ (Below.refl _ _) rfl
            refine Inv.from_cons _ _ _ _ rfl (fun _ a w hJ hF F K hK => ?_) ?_
            · have hz : a.tmps.size = 80 := hF.size
              have e33 : a.tmps[33]? = some (.pointer (some ⟨W.heap.size, 0, none⟩)) := Inv2.some_slot (by rw [hz]; exact Nat.le_of_ble_eq_true rfl) (F 3 (by kernel_rfl) 33 rfl)
              clear F hF hz
              have hJ1 := hJ
              obtain ⟨c0, c1, c2, c3, _, _⟩ := hJ1
              go_simp
              exact hK (.int .i64 x1) _ hJ (Below.refl _ _) rfl
            refine Inv.from_cons _ _ _ _ rfl (fun _ a w hJ hF F K hK => ?_) ?_
            · have hz : a.tmps.size = 80 := hF.size
              have e4 : a.tmps[4]? = some (.pointer (some ⟨W.heap.size, 0, none⟩)) := Inv2.some_slot (by rw [hz]; exact Nat.le_of_ble_eq_true rfl) (hF.slot 4 (by kernel_rfl))
              clear F hF hz
              have hJ1 := hJ
              obtain ⟨c0, c1, c2, c3, _, _⟩ := hJ1
              go_simp
              exact hK (.pointer (some ⟨W.heap.size, 1, none⟩)) _ hJ (Below.refl _ _) rfl
            refine Inv.from_cons _ _ _ _ rfl (fun _ a w hJ hF F K hK => ?_) ?_
            · have hz : a.tmps.size = 80 := hF.size
              have e35 : a.tmps[35]? = some (.pointer (some ⟨W.heap.size, 1, none⟩)) := Inv2.some_slot (by rw [hz]; exact Nat.le_of_ble_eq_true rfl) (F 5 (by kernel_rfl) 35 rfl)
              clear F hF hz
              have hJ1 := hJ
              obtain ⟨c0, c1, c2, c3, _, _⟩ := hJ1
              go_simp
              exact hK (.int .i64 y1) _ hJ (Below.refl _ _) rfl
            refine Inv.from_cons _ _ _ _ rfl (fun _ a w hJ hF F K hK => ?_) ?_
            · have hz : a.tmps.size = 80 := hF.size
              obtain ⟨x32, e32, f2⟩ : ∃ x, a.tmps[32]? = some x ∧ SlF (l) x w := ⟨_, Inv2.some_slot (by rw [hz]; exact Nat.le_of_ble_eq_true rfl) rfl, F 2 (by kernel_rfl) 32 rfl⟩
              have e34 : a.tmps[34]? = some (.int .i64 x1) := Inv2.some_slot (by rw [hz]; exact Nat.le_of_ble_eq_true rfl) (F 4 (by kernel_rfl) 34 rfl)
              have e36 : a.tmps[36]? = some (.int .i64 y1) := Inv2.some_slot (by rw [hz]; exact Nat.le_of_ble_eq_true rfl) (F 6 (by kernel_rfl) 36 rfl)
              clear F hF hz
              have hJ1 := hJ
              obtain ⟨c0, c1, c2, c3, _, _⟩ := hJ1
              have hh := putS w x32 (l) x1 y1 f2 HU.out (by omega)
              obtain ⟨P, m, c', rfl⟩ := f2.form
              clear f2
              go_simp
              (with_reducible refine hh.mono ?_)
              rintro e' w' ⟨A', m', c'', rfl, hA, hb⟩
              go_simp
              exact hK _ _ (hJ.below hb) hb hA
            refine Inv.from_cons _ _ _ _ rfl (fun _ a w hJ hF F K hK => ?_) ?_
            · have hz : a.tmps.size = 80 := hF.size
              have e5 : a.tmps[5]? = some (.pointer (some ⟨W.heap.size + 1, 0, none⟩)) := Inv2.some_slot (by rw [hz]; exact Nat.le_of_ble_eq_true rfl) (hF.slot 5 (by kernel_rfl))
              clear F hF hz
              have hJ1 := hJ
              obtain ⟨c0, c1, c2, c3, _, _⟩ := hJ1
              go_simp
              exact hK (.pointer (some ⟨W.heap.size + 1, 0, none⟩)) _ hJ (Below.refl _ _) rfl
            refine Inv.from_cons _ _ _ _ rfl (fun _ a w hJ hF F K hK => ?_) ?_
            · have hz : a.tmps.size = 80 := hF.size
              have e38 : a.tmps[38]? = some (.pointer (some ⟨W.heap.size + 1, 0, none⟩)) := Inv2.some_slot (by rw [hz]; exact Nat.le_of_ble_eq_true rfl) (F 8 (by kernel_rfl) 38 rfl)
              clear F hF hz
              have hJ1 := hJ
              obtain ⟨c0, c1, c2, c3, _, _⟩ := hJ1
              go_simp
              exact hK (.int .i64 x2) _ hJ (Below.refl _ _) rfl
            refine Inv.from_cons _ _ _ _ rfl (fun _ a w hJ hF F K hK => ?_) ?_
            · have hz : a.tmps.size = 80 := hF.size
              have e5 : a.tmps[5]? = some (.pointer (some ⟨W.heap.size + 1, 0, none⟩)) := Inv2.some_slot (by rw [hz]; exact Nat.le_of_ble_eq_true rfl) (hF.slot 5 (by kernel_rfl))
              clear F hF hz
              have hJ1 := hJ
              obtain ⟨c0, c1, c2, c3, _, _⟩ := hJ1
              go_simp
              exact hK (.pointer (some ⟨W.heap.size + 1, 1, none⟩)) _ hJ (Below.refl _ _) rfl
            refine Inv.from_cons _ _ _ _ rfl (fun _ a w hJ hF F K hK => ?_) ?_
            · have hz : a.tmps.size = 80 := hF.size
              have e40 : a.tmps[40]? = some (.pointer (some ⟨W.heap.size + 1, 1, none⟩)) := Inv2.some_slot (by rw [hz]; exact Nat.le_of_ble_eq_true rfl) (F 10 (by kernel_rfl) 40 rfl)
              clear F hF hz
              have hJ1 := hJ
              obtain ⟨c0, c1, c2, c3, _, _⟩ := hJ1
              go_simp
              exact hK (.int .i64 y2) _ hJ (Below.refl _ _) rfl
            refine Inv.from_cons _ _ _ _ rfl (fun _ a w hJ hF F K hK => ?_) ?_
            · have hz : a.tmps.size = 80 := hF.size
              obtain ⟨x37, e37, f7⟩ : ∃ x, a.tmps[37]? = some x ∧ SlF (ins x1 y1 l) x w := ⟨_, Inv2.some_slot (by rw [hz]; exact Nat.le_of_ble_eq_true rfl) rfl, F 7 (by kernel_rfl) 37 rfl⟩
              have e39 : a.tmps[39]? = some (.int .i64 x2) := Inv2.some_slot (by rw [hz]; exact Nat.le_of_ble_eq_true rfl) (F 9 (by kernel_rfl) 39 rfl)
              have e41 : a.tmps[41]? = some (.int .i64 y2) := Inv2.some_slot (by rw [hz]; exact Nat.le_of_ble_eq_true rfl) (F 11 (by kernel_rfl) 41 rfl)
              clear F hF hz
              have hJ1 := hJ
              obtain ⟨c0, c1, c2, c3, _, _⟩ := hJ1
              have hh := putS w x37 (ins x1 y1 l) x2 y2 f7 (rise_ins _ _ HU.out) (by have := ins_len x1 y1 l; omega)
              obtain ⟨P, m, c', rfl⟩ := f7.form
              clear f7
              go_simp
              (with_reducible refine hh.mono ?_)
              rintro e' w' ⟨A', m', c'', rfl, hA, hb⟩
              go_simp
              exact hK _ _ (hJ.below hb) hb hA
            refine Inv.from_skip _ _ _ _ rfl ?_
            exact Inv.from_end _ _ _ _ (by decide +kernel)
          · intro o ho a w hJ hF F K hK
            injection (show some _ = some o from ho) with ho
            subst ho
            obtain ⟨f, hf⟩ : ∃ f : Nat → Value, ∀ i, a.tmps.getD i undef = f i := ⟨_, fun _ => rfl⟩
            have g0 : f 0 = (.slice A l.length c) := (hf 0).symm.trans (hF.slot 0 (by kernel_rfl))
            have g4 : f 4 = (.pointer (some ⟨W.heap.size, 0, none⟩)) := (hf 4).symm.trans (hF.slot 4 (by kernel_rfl))
            have g5 : f 5 = (.pointer (some ⟨W.heap.size + 1, 0, none⟩)) := (hf 5).symm.trans (hF.slot 5 (by kernel_rfl))
            obtain ⟨x30, g30⟩ : ∃ x, f 30 = x := ⟨_, rfl⟩
            have f0 : EmpW x30 w := by rw [← g30, ← hf 30]; exact F 0 (by decide) 30 rfl
            have g31 : f 31 = (.slice A l.length c) := (hf 31).symm.trans (F 1 (by decide) 31 rfl)
            obtain ⟨x32, g32⟩ : ∃ x, f 32 = x := ⟨_, rfl⟩
            have f2 : SlF (l) x32 w := by rw [← g32, ← hf 32]; exact F 2 (by decide) 32 rfl
            have g33 : f 33 = (.pointer (some ⟨W.heap.size, 0, none⟩)) := (hf 33).symm.trans (F 3 (by decide) 33 rfl)
            have g34 : f 34 = (.int .i64 x1) := (hf 34).symm.trans (F 4 (by decide) 34 rfl)
            have g35 : f 35 = (.pointer (some ⟨W.heap.size, 1, none⟩)) := (hf 35).symm.trans (F 5 (by decide) 35 rfl)
            have g36 : f 36 = (.int .i64 y1) := (hf 36).symm.trans (F 6 (by decide) 36 rfl)
            obtain ⟨x37, g37⟩ : ∃ x, f 37 = x := ⟨_, rfl⟩
            have f7 : SlF (ins x1 y1 l) x37 w := by rw [← g37, ← hf 37]; exact F 7 (by decide) 37 rfl
            have g38 : f 38 = (.pointer (some ⟨W.heap.size + 1, 0, none⟩)) := (hf 38).symm.trans (F 8 (by decide) 38 rfl)
            have g39 : f 39 = (.int .i64 x2) := (hf 39).symm.trans (F 9 (by decide) 39 rfl)
            have g40 : f 40 = (.pointer (some ⟨W.heap.size + 1, 1, none⟩)) := (hf 40).symm.trans (F 10 (by decide) 40 rfl)
            have g41 : f 41 = (.int .i64 y2) := (hf 41).symm.trans (F 11 (by decide) 41 rfl)
            obtain ⟨x42, g42⟩ : ∃ x, f 42 = x := ⟨_, rfl⟩
            have f12 : SlF (ins x2 y2 (ins x1 y1 l)) x42 w := by rw [← g42, ← hf 42]; exact F 12 (by decide) 42 rfl
            have ha := Frames.frame (show a.tmps.size = 80 from hF.size) hF.defers hf (l := [f 0, f 1, f 2, f 3, f 4, f 5, f 6, f 7, f 8, f 9, f 10, f 11, f 12, f 13, f 14, f 15, f 16, f 17, f 18, f 19, f 20, f 21, f 22, f 23, f 24, f 25, f 26, f 27, f 28, f 29, f 30, f 31, f 32, f 33, f 34, f 35, f 36, f 37, f 38, f 39, f 40, f 41, f 42, f 43, f 44, f 45, f 46, f 47, f 48, f 49, f 50, f 51, f 52, f 53, f 54, f 55, f 56, f 57, f 58, f 59, f 60, f 61, f 62, f 63, f 64, f 65, f 66, f 67, f 68, f 69, f 70, f 71, f 72, f 73, f 74, f 75, f 76, f 77, f 78, f 79]) rfl
            simp only [g0, g4, g5, g30, g31, g32, g33, g34, g35, g36, g37, g38, g39, g40, g41, g42] at ha
            clear F hF hf g0 g4 g5 g30 g31 g32 g33 g34 g35 g36 g37 g38 g39 g40 g41 g42
            subst ha
            have hJ1 := hJ
            obtain ⟨c0, c1, c2, c3, _, _⟩ := hJ1
            have hJ0 : (fun w' : World => Two2 W.heap.size x1 y1 x2 y2 W w' ∧ SlF (ins x2 y2 (ins x1 y1 l)) x42 w') (World.drew w) := ⟨hJ.below (Below.refl _ _).drew, f12.below (Below.refl _ _).drew⟩
            clear f12 f2 f7 f0 hJ c0 c1 c2 c3
            go_simp
            refine hK _ _ ?_
            clear hK
            go_wp2_with fail
            refine wp_region_any (by kernel_rfl) ?_
            change wpAny _ _ _ _ _ _ _ (World.drew _)
            refine Inv.inv_any (fun (i : Nat) (v : Value) (w : World) => match i with | 0 => EmpW v w | 1 => v = .slice A l.length c | 2 => SlF (l) v w | 3 => v = .pointer (some ⟨W.heap.size + 1, 0, none⟩) | 4 => v = .int .i64 x2 | 5 => v = .pointer (some ⟨W.heap.size + 1, 1, none⟩) | 6 => v = .int .i64 y2 | 7 => SlF (ins x2 y2 l) v w | 8 => v = .pointer (some ⟨W.heap.size, 0, none⟩) | 9 => v = .int .i64 x1 | 10 => v = .pointer (some ⟨W.heap.size, 1, none⟩) | 11 => v = .int .i64 y1 | 12 => SlF (ins x1 y1 (ins x2 y2 l)) v w | _ => True) (fun w' : World => Two2 W.heap.size x1 y1 x2 y2 W w' ∧ SlF (ins x2 y2 (ins x1 y1 l)) x42 w') _ 13 80 rfl rfl rfl (by kernel_rfl) (by kernel_rfl) hJ0 ?_ ?_ ?_ ?_
            · intro j v w w' h hb
              match j, h with
              | 0, h => exact EmpW.below h hb
              | 1, h => exact h
              | 2, h => exact SlF.below h hb
              | 3, h => exact h
              | 4, h => exact h
              | 5, h => exact h
              | 6, h => exact h
              | 7, h => exact SlF.below h hb
              | 8, h => exact h
              | 9, h => exact h
              | 10, h => exact h
              | 11, h => exact h
              | 12, h => exact SlF.below h hb
              | 13, _ => exact trivial
              | (_ + 14), _ => exact trivial
            · skip
              refine Inv.from_cons _ _ _ _ rfl (fun _ a w hJ hF F K hK => ?_) ?_
              · have hz : a.tmps.size = 80 := hF.size
                clear F hF hz
                have hJ1 := hJ
                obtain ⟨⟨c0, c1, c2, c3, _, _⟩, _⟩ := hJ1
                go_simp
                exact hK _ _ ⟨hJ.1.below (al _ _), hJ.2.below (al _ _)⟩ (al _ _) ⟨_, rfl⟩
              refine Inv.from_cons _ _ _ _ rfl (fun _ a w hJ hF F K hK => ?_) ?_
              · have hz : a.tmps.size = 80 := hF.size
                have e0 : a.tmps[0]? = some (.slice A l.length c) := Inv2.some_slot (by rw [hz]; exact Nat.le_of_ble_eq_true rfl) (hF.slot 0 (by kernel_rfl))
                clear F hF hz
                have hJ1 := hJ
                obtain ⟨⟨c0, c1, c2, c3, _, _⟩, _⟩ := hJ1
                go_simp
                exact hK (.slice A l.length c) _ hJ (Below.refl _ _) rfl
              refine Inv.from_cons _ _ _ _ rfl (fun _ a w hJ hF F K hK => ?_) ?_
              · have hz : a.tmps.size = 80 := hF.size
                obtain ⟨x43, e43, f0⟩ : ∃ x, a.tmps[43]? = some x ∧ EmpW x w := ⟨_, Inv2.some_slot (by rw [hz]; exact Nat.le_of_ble_eq_true rfl) rfl, F 0 (by kernel_rfl) 43 rfl⟩
                have e44 : a.tmps[44]? = some (.slice A l.length c) := Inv2.some_slot (by rw [hz]; exact Nat.le_of_ble_eq_true rfl) (F 1 (by kernel_rfl) 44 rfl)
                clear F hF hz
                have hJ1 := hJ
                obtain ⟨⟨c0, c1, c2, c3, _, _⟩, _⟩ := hJ1
                obtain ⟨g7, rfl⟩ := f0
                obtain ⟨A', c', w', hrun, hsl, hbl⟩ := append_new g7 (n := l.length) (c := c) rfl (HR.out.belowSize hJ.1.base) (by omega)
                refine FreeCellsOf.step_append_d (d := 45) rfl rfl (.tmp 43) (.tmp 44) 22 22 rfl (vs := .slice (some ⟨g7, 0, none⟩) 0 0) (vx := .slice A l.length c) (by simp [Act.eval, e43]) (by simp [Act.eval, e44]) hrun ?_
                exact hK _ _ ⟨hJ.1.below hbl, hJ.2.below hbl⟩ hbl hsl
              refine Inv.from_cons _ _ _ _ rfl (fun _ a w hJ hF F K hK => ?_) ?_
              · have hz : a.tmps.size = 80 := hF.size
                have e5 : a.tmps[5]? = some (.pointer (some ⟨W.heap.size + 1, 0, none⟩)) := Inv2.some_slot (by rw [hz]; exact Nat.le_of_ble_eq_true rfl) (hF.slot 5 (by kernel_rfl))
                clear F hF hz
                have hJ1 := hJ
                obtain ⟨⟨c0, c1, c2, c3, _, _⟩, _⟩ := hJ1
                go_simp
                exact hK (.pointer (some ⟨W.heap.size + 1, 0, none⟩)) _ hJ (Below.refl _ _) rfl
              refine Inv.from_cons _ _ _ _ rfl (fun _ a w hJ hF F K hK => ?_) ?_
              · have hz : a.tmps.size = 80 := hF.size
                have e46 : a.tmps[46]? = some (.pointer (some ⟨W.heap.size + 1, 0, none⟩)) := Inv2.some_slot (by rw [hz]; exact Nat.le_of_ble_eq_true rfl) (F 3 (by kernel_rfl) 46 rfl)
                clear F hF hz
                have hJ1 := hJ
                obtain ⟨⟨c0, c1, c2, c3, _, _⟩, _⟩ := hJ1
                go_simp
                exact hK (.int .i64 x2) _ hJ (Below.refl _ _) rfl
              refine Inv.from_cons _ _ _ _ rfl (fun _ a w hJ hF F K hK => ?_) ?_
              · have hz : a.tmps.size = 80 := hF.size
                have e5 : a.tmps[5]? = some (.pointer (some ⟨W.heap.size + 1, 0, none⟩)) := Inv2.some_slot (by rw [hz]; exact Nat.le_of_ble_eq_true rfl) (hF.slot 5 (by kernel_rfl))
                clear F hF hz
                have hJ1 := hJ
                obtain ⟨⟨c0, c1, c2, c3, _, _⟩, _⟩ := hJ1
                go_simp
                exact hK (.pointer (some ⟨W.heap.size + 1, 1, none⟩)) _ hJ (Below.refl _ _) rfl
              refine Inv.from_cons _ _ _ _ rfl (fun _ a w hJ hF F K hK => ?_) ?_
              · have hz : a.tmps.size = 80 := hF.size
                have e48 : a.tmps[48]? = some (.pointer (some ⟨W.heap.size + 1, 1, none⟩)) := Inv2.some_slot (by rw [hz]; exact Nat.le_of_ble_eq_true rfl) (F 5 (by kernel_rfl) 48 rfl)
                clear F hF hz
                have hJ1 := hJ
                obtain ⟨⟨c0, c1, c2, c3, _, _⟩, _⟩ := hJ1
                go_simp
                exact hK (.int .i64 y2) _ hJ (Below.refl _ _) rfl
              refine Inv.from_cons _ _ _ _ rfl (fun _ a w hJ hF F K hK => ?_) ?_
              · have hz : a.tmps.size = 80 := hF.size
                obtain ⟨x45, e45, f2⟩ : ∃ x, a.tmps[45]? = some x ∧ SlF (l) x w := ⟨_, Inv2.some_slot (by rw [hz]; exact Nat.le_of_ble_eq_true rfl) rfl, F 2 (by kernel_rfl) 45 rfl⟩
                have e47 : a.tmps[47]? = some (.int .i64 x2) := Inv2.some_slot (by rw [hz]; exact Nat.le_of_ble_eq_true rfl) (F 4 (by kernel_rfl) 47 rfl)
                have e49 : a.tmps[49]? = some (.int .i64 y2) := Inv2.some_slot (by rw [hz]; exact Nat.le_of_ble_eq_true rfl) (F 6 (by kernel_rfl) 49 rfl)
                clear F hF hz
                have hJ1 := hJ
                obtain ⟨⟨c0, c1, c2, c3, _, _⟩, _⟩ := hJ1
                have hh := putS w x45 (l) x2 y2 f2 HU.out (by omega)
                obtain ⟨P, m, c', rfl⟩ := f2.form
                clear f2
                go_simp
                (with_reducible refine hh.mono ?_)
                rintro e' w' ⟨A', m', c'', rfl, hA, hb⟩
                go_simp
                exact hK _ _ ⟨hJ.1.below hb, hJ.2.below hb⟩ hb hA
              refine Inv.from_cons _ _ _ _ rfl (fun _ a w hJ hF F K hK => ?_) ?_
              · have hz : a.tmps.size = 80 := hF.size
                have e4 : a.tmps[4]? = some (.pointer (some ⟨W.heap.size, 0, none⟩)) := Inv2.some_slot (by rw [hz]; exact Nat.le_of_ble_eq_true rfl) (hF.slot 4 (by kernel_rfl))
                clear F hF hz
                have hJ1 := hJ
                obtain ⟨⟨c0, c1, c2, c3, _, _⟩, _⟩ := hJ1
                go_simp
                exact hK (.pointer (some ⟨W.heap.size, 0, none⟩)) _ hJ (Below.refl _ _) rfl
              refine Inv.from_cons _ _ _ _ rfl (fun _ a w hJ hF F K hK => ?_) ?_
              · have hz : a.tmps.size = 80 := hF.size
                have e51 : a.tmps[51]? = some (.pointer (some ⟨W.heap.size, 0, none⟩)) := Inv2.some_slot (by rw [hz]; exact Nat.le_of_ble_eq_true rfl) (F 8 (by kernel_rfl) 51 rfl)
                clear F hF hz
                have hJ1 := hJ
                obtain ⟨⟨c0, c1, c2, c3, _, _⟩, _⟩ := hJ1
                go_simp
                exact hK (.int .i64 x1) _ hJ (Below.refl _ _) rfl
              refine Inv.from_cons _ _ _ _ rfl (fun _ a w hJ hF F K hK => ?_) ?_
              · have hz : a.tmps.size = 80 := hF.size
                have e4 : a.tmps[4]? = some (.pointer (some ⟨W.heap.size, 0, none⟩)) := Inv2.some_slot (by rw [hz]; exact Nat.le_of_ble_eq_true rfl) (hF.slot 4 (by kernel_rfl))
                clear F hF hz
                have hJ1 := hJ
                obtain ⟨⟨c0, c1, c2, c3, _, _⟩, _⟩ := hJ1
                go_simp
                exact hK (.pointer (some ⟨W.heap.size, 1, none⟩)) _ hJ (Below.refl _ _) rfl
              refine Inv.from_cons _ _ _ _ rfl (fun _ a w hJ hF F K hK => ?_) ?_
              · have hz : a.tmps.size = 80 := hF.size
                have e53 : a.tmps[53]? = some (.pointer (some ⟨W.heap.size, 1, none⟩)) := Inv2.some_slot (by rw [hz]; exact Nat.le_of_ble_eq_true rfl) (F 10 (by kernel_rfl) 53 rfl)
                clear F hF hz
                have hJ1 := hJ
                obtain ⟨⟨c0, c1, c2, c3, _, _⟩, _⟩ := hJ1
                go_simp
                exact hK (.int .i64 y1) _ hJ (Below.refl _ _) rfl
              refine Inv.from_cons _ _ _ _ rfl (fun _ a w hJ hF F K hK => ?_) ?_
              · have hz : a.tmps.size = 80 := hF.size
                obtain ⟨x50, e50, f7⟩ : ∃ x, a.tmps[50]? = some x ∧ SlF (ins x2 y2 l) x w := ⟨_, Inv2.some_slot (by rw [hz]; exact Nat.le_of_ble_eq_true rfl) rfl, F 7 (by kernel_rfl) 50 rfl⟩
                have e52 : a.tmps[52]? = some (.int .i64 x1) := Inv2.some_slot (by rw [hz]; exact Nat.le_of_ble_eq_true rfl) (F 9 (by kernel_rfl) 52 rfl)
                have e54 : a.tmps[54]? = some (.int .i64 y1) := Inv2.some_slot (by rw [hz]; exact Nat.le_of_ble_eq_true rfl) (F 11 (by kernel_rfl) 54 rfl)
                clear F hF hz
                have hJ1 := hJ
                obtain ⟨⟨c0, c1, c2, c3, _, _⟩, _⟩ := hJ1
                have hh := putS w x50 (ins x2 y2 l) x1 y1 f7 (rise_ins _ _ HU.out) (by have := ins_len x2 y2 l; omega)
                obtain ⟨P, m, c', rfl⟩ := f7.form
                clear f7
                go_simp
                (with_reducible refine hh.mono ?_)
                rintro e' w' ⟨A', m', c'', rfl, hA, hb⟩
                go_simp
                exact hK _ _ ⟨hJ.1.below hb, hJ.2.below hb⟩ hb hA
              refine Inv.from_skip _ _ _ _ rfl ?_
              exact Inv.from_end _ _ _ _ (by decide +kernel)
            · intro o ho a w hJ hF F K hK
              injection (show some _ = some o from ho) with ho
              subst ho
              obtain ⟨f, hf⟩ : ∃ f : Nat → Value, ∀ i, a.tmps.getD i undef = f i := ⟨_, fun _ => rfl⟩
              have g0 : f 0 = (.slice A l.length c) := (hf 0).symm.trans (hF.slot 0 (by kernel_rfl))
              have g4 : f 4 = (.pointer (some ⟨W.heap.size, 0, none⟩)) := (hf 4).symm.trans (hF.slot 4 (by kernel_rfl))
              have g5 : f 5 = (.pointer (some ⟨W.heap.size + 1, 0, none⟩)) := (hf 5).symm.trans (hF.slot 5 (by kernel_rfl))
              have g7 : f 7 = (x42) := (hf 7).symm.trans (hF.slot 7 (by kernel_rfl))
              obtain ⟨x43, g43⟩ : ∃ x, f 43 = x := ⟨_, rfl⟩
              have f0 : EmpW x43 w := by rw [← g43, ← hf 43]; exact F 0 (by decide) 43 rfl
              have g44 : f 44 = (.slice A l.length c) := (hf 44).symm.trans (F 1 (by decide) 44 rfl)
              obtain ⟨x45, g45⟩ : ∃ x, f 45 = x := ⟨_, rfl⟩
              have f2 : SlF (l) x45 w := by rw [← g45, ← hf 45]; exact F 2 (by decide) 45 rfl
              have g46 : f 46 = (.pointer (some ⟨W.heap.size + 1, 0, none⟩)) := (hf 46).symm.trans (F 3 (by decide) 46 rfl)
              have g47 : f 47 = (.int .i64 x2) := (hf 47).symm.trans (F 4 (by decide) 47 rfl)
              have g48 : f 48 = (.pointer (some ⟨W.heap.size + 1, 1, none⟩)) := (hf 48).symm.trans (F 5 (by decide) 48 rfl)
              have g49 : f 49 = (.int .i64 y2) := (hf 49).symm.trans (F 6 (by decide) 49 rfl)
              obtain ⟨x50, g50⟩ : ∃ x, f 50 = x := ⟨_, rfl⟩
              have f7 : SlF (ins x2 y2 l) x50 w := by rw [← g50, ← hf 50]; exact F 7 (by decide) 50 rfl
              have g51 : f 51 = (.pointer (some ⟨W.heap.size, 0, none⟩)) := (hf 51).symm.trans (F 8 (by decide) 51 rfl)
              have g52 : f 52 = (.int .i64 x1) := (hf 52).symm.trans (F 9 (by decide) 52 rfl)
              have g53 : f 53 = (.pointer (some ⟨W.heap.size, 1, none⟩)) := (hf 53).symm.trans (F 10 (by decide) 53 rfl)
              have g54 : f 54 = (.int .i64 y1) := (hf 54).symm.trans (F 11 (by decide) 54 rfl)
              obtain ⟨x55, g55⟩ : ∃ x, f 55 = x := ⟨_, rfl⟩
              have f12 : SlF (ins x1 y1 (ins x2 y2 l)) x55 w := by rw [← g55, ← hf 55]; exact F 12 (by decide) 55 rfl
              have ha := Frames.frame (show a.tmps.size = 80 from hF.size) hF.defers hf (l := [f 0, f 1, f 2, f 3, f 4, f 5, f 6, f 7, f 8, f 9, f 10, f 11, f 12, f 13, f 14, f 15, f 16, f 17, f 18, f 19, f 20, f 21, f 22, f 23, f 24, f 25, f 26, f 27, f 28, f 29, f 30, f 31, f 32, f 33, f 34, f 35, f 36, f 37, f 38, f 39, f 40, f 41, f 42, f 43, f 44, f 45, f 46, f 47, f 48, f 49, f 50, f 51, f 52, f 53, f 54, f 55, f 56, f 57, f 58, f 59, f 60, f 61, f 62, f 63, f 64, f 65, f 66, f 67, f 68, f 69, f 70, f 71, f 72, f 73, f 74, f 75, f 76, f 77, f 78, f 79]) rfl
              simp only [g0, g4, g5, g7, g43, g44, g45, g46, g47, g48, g49, g50, g51, g52, g53, g54, g55] at ha
              clear F hF hf g0 g4 g5 g7 g43 g44 g45 g46 g47 g48 g49 g50 g51 g52 g53 g54 g55
              subst ha
              have hJ1 := hJ
              obtain ⟨⟨c0, c1, c2, c3, _, _⟩, _⟩ := hJ1
              have HB5 := Lib.hid (And.intro hJ f12)
              clear f12 f2 f7
              have HJW := Lib.hid hJ
              clear hJ
              go_simp
              refine hK _ _ ?_
              clear hK
              by_cases hne : x1 = x2
              · have HTW := Lib.hid (show ins x2 y2 (ins x1 y1 l) = ins x2 y2 l by rw [hne, ins_twice])
                have hne2 : (x1 != x2) = false := by simpa using hne
                clear hne
                go_wp2_with fail
                have hJ0 : (fun w' : World => Two2 W.heap.size x1 y1 x2 y2 W w' ∧ SlF (ins x2 y2 (ins x1 y1 l)) x42 w') (World.drew w) := ⟨HJW.out.1.below (Below.refl _ _).drew, HJW.out.2.below (Below.refl _ _).drew⟩
                clear HB5 HJW c0 c1 c2 c3 f0 hne2
                refine wp_region_any (by kernel_rfl) ?_
                change wpAny _ _ _ _ _ _ _ (World.drew _)
                refine Inv.inv_any (fun (i : Nat) (v : Value) (w : World) => match i with | 0 => v = .bool true | 1 => v = .bool true | 2 => v = x42 | 3 => EmpW v w | 4 => v = .slice A l.length c | 5 => SlF (l) v w | 6 => v = .pointer (some ⟨W.heap.size + 1, 0, none⟩) | 7 => v = .int .i64 x2 | 8 => v = .pointer (some ⟨W.heap.size + 1, 1, none⟩) | 9 => v = .int .i64 y2 | 10 => SlF (ins x2 y2 l) v w | 11 => v = .bool true | 12 => v = .bool true | _ => True) (fun w' : World => Two2 W.heap.size x1 y1 x2 y2 W w' ∧ SlF (ins x2 y2 (ins x1 y1 l)) x42 w') _ 13 80 rfl rfl rfl (by kernel_rfl) (by kernel_rfl) hJ0 ?_ ?_ ?_ ?_
                · intro j v w w' h hb
                  match j, h with
                  | 0, h => exact h
                  | 1, h => exact h
                  | 2, h => exact h
                  | 3, h => exact EmpW.below h hb
                  | 4, h => exact h
                  | 5, h => exact SlF.below h hb
                  | 6, h => exact h
                  | 7, h => exact h
                  | 8, h => exact h
                  | 9, h => exact h
                  | 10, h => exact SlF.below h hb
                  | 11, h => exact h
                  | 12, h => exact h
                  | 13, _ => exact trivial
                  | (_ + 14), _ => exact trivial
                · skip
                  refine Inv.from_cons _ _ _ _ rfl (fun _ a w hJ hF F K hK => ?_) ?_
                  · have hz : a.tmps.size = 80 := hF.size
                    clear F hF hz
                    have hJ1 := hJ
                    obtain ⟨⟨c0, c1, c2, c3, _, _⟩, _⟩ := hJ1
                    have hh := awake_any w
                    go_simp
                    (with_reducible refine hh.mono ?_)
                    rintro e' w' ⟨rfl, hb⟩
                    go_simp
                    exact hK _ _ ⟨hJ.1.below hb, hJ.2.below hb⟩ hb rfl
                  refine Inv.from_cons _ _ _ _ rfl (fun _ a w hJ hF F K hK => ?_) ?_
                  · have hz : a.tmps.size = 80 := hF.size
                    have e67 : a.tmps[67]? = some (.bool true) := Inv2.some_slot (by rw [hz]; exact Nat.le_of_ble_eq_true rfl) (F 0 (by kernel_rfl) 67 rfl)
                    clear F hF hz
                    have hJ1 := hJ
                    obtain ⟨⟨c0, c1, c2, c3, _, _⟩, _⟩ := hJ1
                    go_simp
                    exact hK (.bool true) _ hJ (Below.refl _ _) rfl
                  refine Inv.from_cons _ _ _ _ rfl (fun _ a w hJ hF F K hK => ?_) ?_
                  · have hz : a.tmps.size = 80 := hF.size
                    have e7 : a.tmps[7]? = some (x42) := Inv2.some_slot (by rw [hz]; exact Nat.le_of_ble_eq_true rfl) (hF.slot 7 (by kernel_rfl))
                    have e68 : a.tmps[68]? = some (.bool true) := Inv2.some_slot (by rw [hz]; exact Nat.le_of_ble_eq_true rfl) (F 1 (by kernel_rfl) 68 rfl)
                    clear F hF hz
                    have hJ1 := hJ
                    obtain ⟨⟨c0, c1, c2, c3, _, _⟩, _⟩ := hJ1
                    go_simp
                    exact hK (x42) _ hJ (Below.refl _ _) rfl
                  refine Inv.from_cons _ _ _ _ rfl (fun _ a w hJ hF F K hK => ?_) ?_
                  · have hz : a.tmps.size = 80 := hF.size
                    have e68 : a.tmps[68]? = some (.bool true) := Inv2.some_slot (by rw [hz]; exact Nat.le_of_ble_eq_true rfl) (F 1 (by kernel_rfl) 68 rfl)
                    clear F hF hz
                    have hJ1 := hJ
                    obtain ⟨⟨c0, c1, c2, c3, _, _⟩, _⟩ := hJ1
                    go_simp
                    exact hK _ _ ⟨hJ.1.below (al _ _), hJ.2.below (al _ _)⟩ (al _ _) ⟨_, rfl⟩
                  refine Inv.from_cons _ _ _ _ rfl (fun _ a w hJ hF F K hK => ?_) ?_
                  · have hz : a.tmps.size = 80 := hF.size
                    have e0 : a.tmps[0]? = some (.slice A l.length c) := Inv2.some_slot (by rw [hz]; exact Nat.le_of_ble_eq_true rfl) (hF.slot 0 (by kernel_rfl))
                    have e68 : a.tmps[68]? = some (.bool true) := Inv2.some_slot (by rw [hz]; exact Nat.le_of_ble_eq_true rfl) (F 1 (by kernel_rfl) 68 rfl)
                    clear F hF hz
                    have hJ1 := hJ
                    obtain ⟨⟨c0, c1, c2, c3, _, _⟩, _⟩ := hJ1
                    go_simp
                    exact hK (.slice A l.length c) _ hJ (Below.refl _ _) rfl
                  refine Inv.from_cons _ _ _ _ rfl (fun _ a w hJ hF F K hK => ?_) ?_
                  · have hz : a.tmps.size = 80 := hF.size
                    have e68 : a.tmps[68]? = some (.bool true) := Inv2.some_slot (by rw [hz]; exact Nat.le_of_ble_eq_true rfl) (F 1 (by kernel_rfl) 68 rfl)
                    obtain ⟨x70, e70, f3⟩ : ∃ x, a.tmps[70]? = some x ∧ EmpW x w := ⟨_, Inv2.some_slot (by rw [hz]; exact Nat.le_of_ble_eq_true rfl) rfl, F 3 (by kernel_rfl) 70 rfl⟩
                    have e71 : a.tmps[71]? = some (.slice A l.length c) := Inv2.some_slot (by rw [hz]; exact Nat.le_of_ble_eq_true rfl) (F 4 (by kernel_rfl) 71 rfl)
                    clear F hF hz
                    have hJ1 := hJ
                    obtain ⟨⟨c0, c1, c2, c3, _, _⟩, _⟩ := hJ1
                    obtain ⟨g7, rfl⟩ := f3
                    obtain ⟨A', c', w', hrun, hsl, hbl⟩ := append_new g7 (n := l.length) (c := c) rfl (HR.out.belowSize hJ.1.base) (by omega)
                    refine step_append_g (d := 72) (by simp [Region.wanted, yielded, e68]) rfl (.tmp 70) (.tmp 71) 22 22 rfl (vs := .slice (some ⟨g7, 0, none⟩) 0 0) (vx := .slice A l.length c) (by simp [Act.eval, e70]) (by simp [Act.eval, e71]) hrun ?_
                    exact hK _ _ ⟨hJ.1.below hbl, hJ.2.below hbl⟩ hbl hsl
                  refine Inv.from_cons _ _ _ _ rfl (fun _ a w hJ hF F K hK => ?_) ?_
                  · have hz : a.tmps.size = 80 := hF.size
                    have e5 : a.tmps[5]? = some (.pointer (some ⟨W.heap.size + 1, 0, none⟩)) := Inv2.some_slot (by rw [hz]; exact Nat.le_of_ble_eq_true rfl) (hF.slot 5 (by kernel_rfl))
                    have e68 : a.tmps[68]? = some (.bool true) := Inv2.some_slot (by rw [hz]; exact Nat.le_of_ble_eq_true rfl) (F 1 (by kernel_rfl) 68 rfl)
                    clear F hF hz
                    have hJ1 := hJ
                    obtain ⟨⟨c0, c1, c2, c3, _, _⟩, _⟩ := hJ1
                    go_simp
                    exact hK (.pointer (some ⟨W.heap.size + 1, 0, none⟩)) _ hJ (Below.refl _ _) rfl
                  refine Inv.from_cons _ _ _ _ rfl (fun _ a w hJ hF F K hK => ?_) ?_
                  · have hz : a.tmps.size = 80 := hF.size
                    have e68 : a.tmps[68]? = some (.bool true) := Inv2.some_slot (by rw [hz]; exact Nat.le_of_ble_eq_true rfl) (F 1 (by kernel_rfl) 68 rfl)
                    have e73 : a.tmps[73]? = some (.pointer (some ⟨W.heap.size + 1, 0, none⟩)) := Inv2.some_slot (by rw [hz]; exact Nat.le_of_ble_eq_true rfl) (F 6 (by kernel_rfl) 73 rfl)
                    clear F hF hz
                    have hJ1 := hJ
                    obtain ⟨⟨c0, c1, c2, c3, _, _⟩, _⟩ := hJ1
                    go_simp
                    exact hK (.int .i64 x2) _ hJ (Below.refl _ _) rfl
                  refine Inv.from_cons _ _ _ _ rfl (fun _ a w hJ hF F K hK => ?_) ?_
                  · have hz : a.tmps.size = 80 := hF.size
                    have e5 : a.tmps[5]? = some (.pointer (some ⟨W.heap.size + 1, 0, none⟩)) := Inv2.some_slot (by rw [hz]; exact Nat.le_of_ble_eq_true rfl) (hF.slot 5 (by kernel_rfl))
                    have e68 : a.tmps[68]? = some (.bool true) := Inv2.some_slot (by rw [hz]; exact Nat.le_of_ble_eq_true rfl) (F 1 (by kernel_rfl) 68 rfl)
                    clear F hF hz
                    have hJ1 := hJ
                    obtain ⟨⟨c0, c1, c2, c3, _, _⟩, _⟩ := hJ1
                    go_simp
                    exact hK (.pointer (some ⟨W.heap.size + 1, 1, none⟩)) _ hJ (Below.refl _ _) rfl
                  refine Inv.from_cons _ _ _ _ rfl (fun _ a w hJ hF F K hK => ?_) ?_
                  · have hz : a.tmps.size = 80 := hF.size
                    have e68 : a.tmps[68]? = some (.bool true) := Inv2.some_slot (by rw [hz]; exact Nat.le_of_ble_eq_true rfl) (F 1 (by kernel_rfl) 68 rfl)
                    have e75 : a.tmps[75]? = some (.pointer (some ⟨W.heap.size + 1, 1, none⟩)) := Inv2.some_slot (by rw [hz]; exact Nat.le_of_ble_eq_true rfl) (F 8 (by kernel_rfl) 75 rfl)
                    clear F hF hz
                    have hJ1 := hJ
                    obtain ⟨⟨c0, c1, c2, c3, _, _⟩, _⟩ := hJ1
                    go_simp
                    exact hK (.int .i64 y2) _ hJ (Below.refl _ _) rfl
                  refine Inv.from_cons _ _ _ _ rfl (fun _ a w hJ hF F K hK => ?_) ?_
                  · have hz : a.tmps.size = 80 := hF.size
                    have e68 : a.tmps[68]? = some (.bool true) := Inv2.some_slot (by rw [hz]; exact Nat.le_of_ble_eq_true rfl) (F 1 (by kernel_rfl) 68 rfl)
                    obtain ⟨x72, e72, f5⟩ : ∃ x, a.tmps[72]? = some x ∧ SlF (l) x w := ⟨_, Inv2.some_slot (by rw [hz]; exact Nat.le_of_ble_eq_true rfl) rfl, F 5 (by kernel_rfl) 72 rfl⟩
                    have e74 : a.tmps[74]? = some (.int .i64 x2) := Inv2.some_slot (by rw [hz]; exact Nat.le_of_ble_eq_true rfl) (F 7 (by kernel_rfl) 74 rfl)
                    have e76 : a.tmps[76]? = some (.int .i64 y2) := Inv2.some_slot (by rw [hz]; exact Nat.le_of_ble_eq_true rfl) (F 9 (by kernel_rfl) 76 rfl)
                    clear F hF hz
                    have hJ1 := hJ
                    obtain ⟨⟨c0, c1, c2, c3, _, _⟩, _⟩ := hJ1
                    have hh := putS w x72 (l) x2 y2 f5 HU.out (by omega)
                    obtain ⟨P, m, c', rfl⟩ := f5.form
                    clear f5
                    go_simp
                    (with_reducible refine hh.mono ?_)
                    rintro e' w' ⟨A', m', c'', rfl, hA, hb⟩
                    go_simp
                    exact hK _ _ ⟨hJ.1.below hb, hJ.2.below hb⟩ hb hA
                  refine Inv.from_cons _ _ _ _ rfl (fun _ a w hJ hF F K hK => ?_) ?_
                  · have hz : a.tmps.size = 80 := hF.size
                    have e68 : a.tmps[68]? = some (.bool true) := Inv2.some_slot (by rw [hz]; exact Nat.le_of_ble_eq_true rfl) (F 1 (by kernel_rfl) 68 rfl)
                    have e69 : a.tmps[69]? = some (x42) := Inv2.some_slot (by rw [hz]; exact Nat.le_of_ble_eq_true rfl) (F 2 (by kernel_rfl) 69 rfl)
                    obtain ⟨x77, e77, f10⟩ : ∃ x, a.tmps[77]? = some x ∧ SlF (ins x2 y2 l) x w := ⟨_, Inv2.some_slot (by rw [hz]; exact Nat.le_of_ble_eq_true rfl) rfl, F 10 (by kernel_rfl) 77 rfl⟩
                    clear F hF hz
                    have hJ1 := hJ
                    obtain ⟨⟨c0, c1, c2, c3, _, _⟩, _⟩ := hJ1
                    have hh := sameS w x42 x77 _ _ hJ.2 f10 HTW.out (by have := ins_len x2 y2 (ins x1 y1 l); have := ins_len x1 y1 l; omega)
                    obtain ⟨P1, m1, c1', rfl⟩ := f10.form
                    obtain ⟨P2, m2, c2', hx42⟩ := hJ.2.form
                    rw [hx42] at hh e69
                    clear f10
                    go_simp
                    (with_reducible refine hh.mono ?_)
                    rintro e' w' ⟨rfl, hb⟩
                    go_simp
                    exact hK _ _ ⟨hJ.1.below hb, hJ.2.below hb⟩ hb rfl
                  refine Inv.from_cons _ _ _ _ rfl (fun _ a w hJ hF F K hK => ?_) ?_
                  · have hz : a.tmps.size = 80 := hF.size
                    have e68 : a.tmps[68]? = some (.bool true) := Inv2.some_slot (by rw [hz]; exact Nat.le_of_ble_eq_true rfl) (F 1 (by kernel_rfl) 68 rfl)
                    have e78 : a.tmps[78]? = some (.bool true) := Inv2.some_slot (by rw [hz]; exact Nat.le_of_ble_eq_true rfl) (F 11 (by kernel_rfl) 78 rfl)
                    clear F hF hz
                    have hJ1 := hJ
                    obtain ⟨⟨c0, c1, c2, c3, _, _⟩, _⟩ := hJ1
                    go_simp
                    exact hK (.bool true) _ hJ (Below.refl _ _) rfl
                  refine Inv.from_skip _ _ _ _ rfl ?_
                  exact Inv.from_end _ _ _ _ (by decide +kernel)
                · intro o ho a w hJ hF F K hK
                  injection (show some _ = some o from ho) with ho
                  subst ho
                  obtain ⟨f, hf⟩ : ∃ f : Nat → Value, ∀ i, a.tmps.getD i undef = f i := ⟨_, fun _ => rfl⟩
                  have g0 : f 0 = (.slice A l.length c) := (hf 0).symm.trans (hF.slot 0 (by kernel_rfl))
                  have g4 : f 4 = (.pointer (some ⟨W.heap.size, 0, none⟩)) := (hf 4).symm.trans (hF.slot 4 (by kernel_rfl))
                  have g5 : f 5 = (.pointer (some ⟨W.heap.size + 1, 0, none⟩)) := (hf 5).symm.trans (hF.slot 5 (by kernel_rfl))
                  have g7 : f 7 = (x42) := (hf 7).symm.trans (hF.slot 7 (by kernel_rfl))
                  have g67 : f 67 = (.bool true) := (hf 67).symm.trans (F 0 (by decide) 67 rfl)
                  have g68 : f 68 = (.bool true) := (hf 68).symm.trans (F 1 (by decide) 68 rfl)
                  have g69 : f 69 = (x42) := (hf 69).symm.trans (F 2 (by decide) 69 rfl)
                  obtain ⟨x70, g70⟩ : ∃ x, f 70 = x := ⟨_, rfl⟩
                  have f3 : EmpW x70 w := by rw [← g70, ← hf 70]; exact F 3 (by decide) 70 rfl
                  have g71 : f 71 = (.slice A l.length c) := (hf 71).symm.trans (F 4 (by decide) 71 rfl)
                  obtain ⟨x72, g72⟩ : ∃ x, f 72 = x := ⟨_, rfl⟩
                  have f5 : SlF (l) x72 w := by rw [← g72, ← hf 72]; exact F 5 (by decide) 72 rfl
                  have g73 : f 73 = (.pointer (some ⟨W.heap.size + 1, 0, none⟩)) := (hf 73).symm.trans (F 6 (by decide) 73 rfl)
                  have g74 : f 74 = (.int .i64 x2) := (hf 74).symm.trans (F 7 (by decide) 74 rfl)
                  have g75 : f 75 = (.pointer (some ⟨W.heap.size + 1, 1, none⟩)) := (hf 75).symm.trans (F 8 (by decide) 75 rfl)
                  have g76 : f 76 = (.int .i64 y2) := (hf 76).symm.trans (F 9 (by decide) 76 rfl)
                  obtain ⟨x77, g77⟩ : ∃ x, f 77 = x := ⟨_, rfl⟩
                  have f10 : SlF (ins x2 y2 l) x77 w := by rw [← g77, ← hf 77]; exact F 10 (by decide) 77 rfl
                  have g78 : f 78 = (.bool true) := (hf 78).symm.trans (F 11 (by decide) 78 rfl)
                  have g79 : f 79 = (.bool true) := (hf 79).symm.trans (F 12 (by decide) 79 rfl)
                  have ha := Frames.frame (show a.tmps.size = 80 from hF.size) hF.defers hf (l := [f 0, f 1, f 2, f 3, f 4, f 5, f 6, f 7, f 8, f 9, f 10, f 11, f 12, f 13, f 14, f 15, f 16, f 17, f 18, f 19, f 20, f 21, f 22, f 23, f 24, f 25, f 26, f 27, f 28, f 29, f 30, f 31, f 32, f 33, f 34, f 35, f 36, f 37, f 38, f 39, f 40, f 41, f 42, f 43, f 44, f 45, f 46, f 47, f 48, f 49, f 50, f 51, f 52, f 53, f 54, f 55, f 56, f 57, f 58, f 59, f 60, f 61, f 62, f 63, f 64, f 65, f 66, f 67, f 68, f 69, f 70, f 71, f 72, f 73, f 74, f 75, f 76, f 77, f 78, f 79]) rfl
                  simp only [g0, g4, g5, g7, g67, g68, g69, g70, g71, g72, g73, g74, g75, g76, g77, g78, g79] at ha
                  clear F hF hf g0 g4 g5 g7 g67 g68 g69 g70 g71 g72 g73 g74 g75 g76 g77 g78 g79
                  subst ha
                  have hJ1 := hJ
                  obtain ⟨⟨c0, c1, c2, c3, _, _⟩, _⟩ := hJ1
                  have HB := Lib.hid hJ.1.base
                  clear hJ
                  go_simp
                  refine hK _ _ ?_
                  clear hK
                  go_wp2_with fail
                  go_ret
                  exact ⟨rfl, HB.out⟩
                · intro hq; exact absurd hq (by decide +kernel)
              · have HCO := Lib.hid (show ins x2 y2 (ins x1 y1 l) = ins x1 y1 (ins x2 y2 l) from ins_comm _ _ (fun h => hne h.symm) l)
                have hne2 : (x1 != x2) = true := by simpa using hne
                clear hne
                go_wp2_with fail
                refine (awake_any w).mono ?_
                rintro e' w9 ⟨rfl, b9⟩
                obtain ⟨⟨hT, hS1⟩, hS2⟩ := HB5.out
                have hh := sameS w9 x42 x55 _ _ (hS1.below b9) (hS2.below b9) HCO.out (by have := ins_len x2 y2 (ins x1 y1 l); have := ins_len x1 y1 l; omega)
                have hB := (hT.below b9).base
                clear c0 c1 c2 c3 hS1 hS2 HB5 HJW hT b9 f0 hne2
                go_wp2_with fail
                (with_reducible refine hh.mono ?_)
                rintro e' w10 ⟨rfl, b10⟩
                go_wp2_with fail
                go_ret
                exact ⟨rfl, bst hB hB.size b10⟩
            · intro hq; exact absurd hq (by decide +kernel)
          · intro hq; exact absurd hq (by decide +kernel)
        · have HF2 := Lib.hid hf2
          clear hf2
          go_enter Try.func8, Try.ntmps8
          go_wp2_with fail
          rw [← HW0.out]
          have hT := HT0.out
          have hc1 := rcheck_any w0 A l.length c l true rfl (HR.out.belowSize hT.base) (by omega) (iff_of_true rfl HG.out)
          (with_reducible refine hc1.mono ?_)
          rintro e' w1 ⟨rfl, hb1⟩
          clear hc1
          have hT := hT.below hb1
          obtain ⟨v2, hv2⟩ : ∃ v, v = w1.alloc (.cells #[.int .i64 x1, .int .i64 y1] 25) := ⟨_, rfl⟩
          have hrow2 : Row v2 v2.heap.size (some ⟨w1.heap.size, 0, none⟩) (fr [(x1, y1)]) := by rw [hv2]; exact row_item w1 (x1, y1)
          have hc2 := rcheck_any v2 (some ⟨w1.heap.size, 0, none⟩) 1 1 [(x1, y1)] true rfl hrow2 (by simp) (iff_of_true rfl (gd_one.2 HF1.out))
          have hTv2 : Two2 W.heap.size x1 y1 x2 y2 W v2 := by rw [hv2]; exact hT.below (al _ _)
          have HV2 := Lib.hid hv2
          clear hv2 hrow2
          have cc0 := hT.a0
          have cc1 := hT.a1
          have cc2 := hT.b0
          have cc3 := hT.b1
          go_wp2_with fail
          rw [← HV2.out]
          (with_reducible refine hc2.mono ?_)
          rintro e' w2 ⟨rfl, hb2⟩
          clear hc2 cc0 cc1 cc2 cc3
          have hT := hTv2.below hb2
          clear hTv2
          obtain ⟨v3, hv3⟩ : ∃ v, v = w2.alloc (.cells #[.int .i64 x2, .int .i64 y2] 25) := ⟨_, rfl⟩
          have hrow3 : Row v3 v3.heap.size (some ⟨w2.heap.size, 0, none⟩) (fr [(x2, y2)]) := by rw [hv3]; exact row_item w2 (x2, y2)
          have hc3 := rcheck_any v3 (some ⟨w2.heap.size, 0, none⟩) 1 1 [(x2, y2)] false rfl hrow3 (by simp) (iff_of_false (by decide) fun h => HF2.out (gd_one.1 h))
          have hTv3 : Two2 W.heap.size x1 y1 x2 y2 W v3 := by rw [hv3]; exact hT.below (al _ _)
          have HV3 := Lib.hid hv3
          clear hv3 hrow3
          have cc0 := hT.a0
          have cc1 := hT.a1
          have cc2 := hT.b0
          have cc3 := hT.b1
          go_wp2_with fail
          rw [← HV3.out]
          (with_reducible refine hc3.mono ?_)
          rintro e' w3 ⟨rfl, hb3⟩
          clear hc3 cc0 cc1 cc2 cc3
          have hT := hTv3.below hb3
          clear hTv3
          go_wp2_with fail
          refine (awake_any w3).mono ?_
          rintro e' w9 ⟨rfl, b9⟩
          have hB := (hT.below b9).base
          go_wp2_with fail
          go_ret
          exact ⟨rfl, hB⟩
      · have HF1 := Lib.hid hf1
        clear hg hf1
        go_enter Try.func8, Try.ntmps8
        go_wp2_with fail
        rw [← HW0.out]
        have hT := HT0.out
        have hc1 := rcheck_any w0 A l.length c l true rfl (HR.out.belowSize hT.base) (by omega) (iff_of_true rfl HG.out)
        (with_reducible refine hc1.mono ?_)
        rintro e' w1 ⟨rfl, hb1⟩
        clear hc1
        have hT := hT.below hb1
        obtain ⟨v2, hv2⟩ : ∃ v, v = w1.alloc (.cells #[.int .i64 x1, .int .i64 y1] 25) := ⟨_, rfl⟩
        have hrow2 : Row v2 v2.heap.size (some ⟨w1.heap.size, 0, none⟩) (fr [(x1, y1)]) := by rw [hv2]; exact row_item w1 (x1, y1)
        have hc2 := rcheck_any v2 (some ⟨w1.heap.size, 0, none⟩) 1 1 [(x1, y1)] false rfl hrow2 (by simp) (iff_of_false (by decide) fun h => HF1.out (gd_one.1 h))
        have hTv2 : Two2 W.heap.size x1 y1 x2 y2 W v2 := by rw [hv2]; exact hT.below (al _ _)
        have HV2 := Lib.hid hv2
        clear hv2 hrow2
        have cc0 := hT.a0
        have cc1 := hT.a1
        have cc2 := hT.b0
        have cc3 := hT.b1
        go_wp2_with fail
        rw [← HV2.out]
        (with_reducible refine hc2.mono ?_)
        rintro e' w2 ⟨rfl, hb2⟩
        clear hc2 cc0 cc1 cc2 cc3
        have hT := hTv2.below hb2
        clear hTv2
        go_wp2_with fail
        refine (awake_any w2).mono ?_
        rintro e' w9 ⟨rfl, b9⟩
        have hB := (hT.below b9).base
        go_wp2_with fail
        go_ret
        exact ⟨rfl, hB⟩
    · go_enter Try.func8, Try.ntmps8
      go_wp2_with fail
      rw [← HW0.out]
      have hT := HT0.out
      have hc1 := rcheck_any w0 A l.length c l false rfl (HR.out.belowSize hT.base) (by omega) (iff_of_false (by decide) hg)
      clear hg
      (with_reducible refine hc1.mono ?_)
      rintro e' w1 ⟨rfl, hb1⟩
      clear hc1
      have hT := hT.below hb1
      go_wp2_with fail
      refine (awake_any w1).mono ?_
      rintro e' w9 ⟨rfl, b9⟩
      have hB := (hT.below b9).base
      go_wp2_with fail
      go_ret
      exact ⟨rfl, hB⟩
end Go.Proofs.Ytffbmabhlgfjkaa.FreeEither
