/- The contract of cellsOf. -/
import Derived.Test.YtffbmabhlgfjkaaFreeText
import Derived.Test.YtffbmabhlgfjkaaHeld
import Derived.Test.YtffbmabhlgfjkaaReg
namespace Go.Proofs.Ytffbmabhlgfjkaa.FreeCellsOf
open Go.RowKit Base FreePlain FreeMem FreeText

theorem bstep {g : Nat} {W w w' : World} (h : Below g W w) (hg : g ≤ w.heap.size) (hb : Below w.heap.size w w') : Below g W w' := h.trans (hb.mono hg)
theorem step_append_run {P : Program} {w : World} {ops : Array Oper} {o : Oper} {a : Act} {K : Act → World → Prop} {Q : Exit → Act → World → Prop} {E : Prop} (hg : o.guard = none) (s x : Operand) (t u : TypeId)
    (hop : o.op = Op.call { callee := Callee.builtin Builtin.append, args := #[s, x], argTypes := #[t, u] }) {vs vx v : Value} {w' : World} (hs : a.eval s = vs) (hx : a.eval x = vx)
    (hrun : (Builtin.append_ #[t, u] o.type #[vs, vx]).run P w = .ok v w') (hK : K (a.put o.dst v) w') : if Region.wanted o (yielded ops a.tmps) = true then Oper.wp P o a w K Q else E := by
  have hw : Region.wanted o (yielded ops a.tmps) = true := by simp [Region.wanted, hg]
  rw [if_pos hw]
  unfold Oper.wp
  simp [execOp, hop, resolve, invoke, builtin, hs, hx, hrun, Result.andThen]
  exact hK
theorem step_append_d {P : Program} {w : World} {ops : Array Oper} {o : Oper} {a : Act} {K : Act → World → Prop} {Q : Exit → Act → World → Prop} {E : Prop} {d : Tmp} (hg : o.guard = none) (hd : o.dst = some d) (s x : Operand) (t u : TypeId)
    (hop : o.op = Op.call { callee := Callee.builtin Builtin.append, args := #[s, x], argTypes := #[t, u] }) {vs vx v : Value} {w' : World} (hs : a.eval s = vs) (hx : a.eval x = vx)
    (hrun : (Builtin.append_ #[t, u] o.type #[vs, vx]).run P w = .ok v w') (hK : K (a.put (some d) v) w') : if Region.wanted o (yielded ops a.tmps) = true then Oper.wp P o a w K Q else E :=
  step_append_run hg s x t u hop hs hx hrun (by rw [hd]; exact hK)
def strs (cs : List ByteArray) : List Value := cs.map Value.string
theorem strs_len (cs : List ByteArray) : (strs cs).length = cs.length := by simp [strs]
theorem row_one (w : World) (v : Value) (t : TypeId) : Row (w.alloc (.cells #[v] t)) (w.alloc (.cells #[v] t)).heap.size (some ⟨w.heap.size, 0, none⟩) [v] := (row_of_block (heap_alloc_new w (.cells #[v] t))).more (by simp)
theorem el_s : Elem Try.prog 39 9 16 := elem_mk (z := .string ⟨#[]⟩) Try.underlying39 (by kernel_rfl) rfl
/-- a cell, and a list's cells -/
def cell (p : Int × Int) : ByteArray := four p.1.toNat ++ four p.2.toNat
def texts (l : Fs) : List ByteArray := l.map cell
theorem texts_len (l : Fs) : (texts l).length = l.length := by simp [texts]
set_option maxRecDepth 100000 in
set_option maxHeartbeats 6400000 in
theorem cellsOf_any (W : World) (A0 : Option Addr) (n c : Nat) (l : Fs) (hn : n = l.length) (hr : Row W W.heap.size A0 (fr l)) (hl : l.length ≤ 1000) (hf : ∀ p ∈ l, Fit p) :
    Calls Try.prog 33 #[.slice A0 n c] W fun e w' => ∃ A' m' c', e = .returned (.slice A' m' c') ∧ m' = l.length ∧ Own w' W.heap.size 9 A' c' (strs (texts l)) ∧ Below W.heap.size W w' := by
  subst hn
  have HR := Lib.hid hr
  clear hr
  go_enter Try.func33, Try.ntmps33
  go_wp2_with fail
  go_loopw [3, 5, 8] (fun v _ i wr => ∃ (k : Nat) (A : Option Addr) (c' : Nat), k ≤ l.length ∧ i = .int .i64 k ∧ v = .slice A k c' ∧ Own wr W.heap.size 9 A c' (strs ((texts l).take k)) ∧ Below W.heap.size W wr) (fun _ _ i _ => l.length - (intOf i).toNat)
  case atStart => exact ⟨0, none, 0, by omega, rfl, rfl, Own.nil _ _ _, Below.refl _ _⟩
  case round =>
    obtain ⟨k, A, c', hk, rfl, rfl, hown, hb⟩ := hrel
    by_cases hlt : k < l.length
    · obtain ⟨ad, hA, hblk, hc1, hc2⟩ := row_at HR.out k hlt
      subst hA
      have cc1 := (hb.cell (p := ad.add (k * 2)) (by rw [blk_add]; exact hblk)).trans hc1
      have cc2 := (hb.cell (p := ⟨(ad.add (k * 2)).block, (ad.add (k * 2)).off + 1, none⟩) (by show (ad.add (k * 2)).block < _; rw [blk_add]; exact hblk)).trans hc2
      clear hc1 hc2
      obtain ⟨f1, f2, f3, f4⟩ := hf _ (List.getElem_mem hlt)
      obtain ⟨n1, hn1⟩ := Int.eq_ofNat_of_zero_le (show 0 ≤ (l[k]).1 by omega)
      obtain ⟨n2, hn2⟩ := Int.eq_ofNat_of_zero_le f3
      have HT := Lib.hid (show strs ((texts l).take (k + 1)) = strs ((texts l).take k) ++ [.string (four n1 ++ four n2)] by
        rw [List.take_succ_eq_append_getElem (by rw [texts_len]; exact hlt)]
        simp only [texts, strs, List.map_append, List.map_cons, List.map_nil, List.getElem_map, cell, hn1, hn2]
        rfl)
      have HLN := Lib.hid (show (strs ((texts l).take k)).length = k by rw [strs_len, List.length_take, texts_len]; omega)
      rw [hn1] at cc1 f1 f2
      rw [hn2] at cc2 f3 f4
      clear hn1 hn2
      have hs1 : (four n1).size = 4 := rfl
      have hs2 : (four n2).size = 4 := rfl
      go_wp2_with fail
      clear cc1 cc2
      generalize hgg : wr.heap.size = g
      refine wp_region_any (by kernel_rfl) ?_
      change wpAny _ _ _ _ _ _ _ (World.drew _)
      obtain ⟨u0, hu0⟩ : ∃ v, v = World.drew (wr.alloc (.cells #[.int .i64 (n1 : Int), .int .i64 (n2 : Int)] 25)) := ⟨_, rfl⟩
      rw [← hu0]
      have hB0 := Below.refl u0.heap.size u0
      have hBW : Below W.heap.size W u0 := by rw [hu0]; exact (bstep hb hb.size (al _ _)).drew
      have HSZ := Lib.hid hBW.size
      have hown : Own u0 W.heap.size 9 A c' (strs ((texts l).take k)) := by rw [hu0]; exact hown.alloc _
      have HC := Lib.hid (show ∀ w', Below u0.heap.size u0 w' → w'.cell? ⟨g, 0, none⟩ = some (.int .i64 (n1 : Int)) ∧ w'.cell? ⟨g, 0 + 1, none⟩ = some (.int .i64 (n2 : Int)) from fun w' hw => by
        have hg : g < u0.heap.size := by rw [hu0, ← hgg]; simp
        have e0 : u0.cell? ⟨g, 0, none⟩ = some (.int .i64 (n1 : Int)) := by rw [hu0, ← hgg]; simp
        have e1 : u0.cell? ⟨g, 0 + 1, none⟩ = some (.int .i64 (n2 : Int)) := by rw [hu0, ← hgg]; simp
        exact ⟨(hw.cell (p := ⟨g, 0, none⟩) hg).trans e0, (hw.cell (p := ⟨g, 0 + 1, none⟩) hg).trans e1⟩)
      clear hu0 hb hgg
      refine Reg.take_at (i := 0) (d := 12) (v := ?_) rfl rfl (by kernel_rfl) (by kernel_rfl) (by kernel_rfl) (fun _ _ _ h => h) (Or.inl ⟨by rfl, ?_⟩) ?_
      rotate_left 1
      · intro w; go_simp <;> with_reducible rfl
      simp only [Act.put, List.setIfInBounds_toArray, List.set_cons_zero, List.set_cons_succ]
      refine Reg.take_at (i := 1) (d := 13) (v := ?_) rfl rfl (by kernel_rfl) (by kernel_rfl) (by kernel_rfl) (fun _ _ _ h => h) (Or.inl ⟨by rfl, ?_⟩) ?_
      rotate_left 1
      · intro w; go_simp <;> with_reducible rfl
      simp only [Act.put, List.setIfInBounds_toArray, List.set_cons_zero, List.set_cons_succ]
      refine Reg.take_at (i := 4) (d := 16) (v := ?_) rfl rfl (by kernel_rfl) (by kernel_rfl) (by kernel_rfl) (fun _ _ _ h => h) (Or.inl ⟨by rfl, ?_⟩) ?_
      rotate_left 1
      · intro w; go_simp <;> with_reducible rfl
      simp only [Act.put, List.setIfInBounds_toArray, List.set_cons_zero, List.set_cons_succ]
      refine wpAny_ready (rs := [2, 5]) (by decide +kernel) (by simp) ?_
      refine AllReady.cons rfl (fun KK hK => ?_) ?_
      · obtain ⟨h1, h2⟩ := HC.out _ hB0
        go_simp
        refine hK _ _ ?_
        clear hK KK h1 h2
        refine wpAny_ready (rs := [3, 5]) (by decide +kernel) (by simp) ?_
        refine AllReady.cons rfl (fun KK hK => ?_) ?_
        · go_simp
          refine (text_any u0 n1 (by omega)).mono ?_
          rintro e u1 ⟨rfl, hst⟩
          have hB1 := bstep hB0 hB0.size hst
          have hown := hown.later hst
          clear hst
          go_simp
          refine hK _ _ ?_
          clear hK KK
          refine wpAny_ready (rs := [5]) (by decide +kernel) (by simp) ?_
          refine AllReady.cons rfl (fun KK hK => ?_) AllReady.nil
          obtain ⟨h1, h2⟩ := HC.out _ hB1
          go_simp
          refine hK _ _ ?_
          clear hK KK h1 h2
          refine wpAny_ready (rs := [6]) (by decide +kernel) (by simp) ?_
          refine AllReady.cons rfl (fun KK hK => ?_) AllReady.nil
          go_simp
          refine (text_any u1 n2 (by omega)).mono ?_
          rintro e u2 ⟨rfl, hst⟩
          have hB2 := bstep hB1 hB1.size hst
          have hown := hown.later hst
          clear hst
          go_simp
          refine hK _ _ ?_
          clear hK KK
          refine Reg.take_at (i := 7) (d := 19) (v := ?_) rfl rfl (by kernel_rfl) (by kernel_rfl) (by kernel_rfl) (fun _ _ _ h => h) (Or.inl ⟨by rfl, ?_⟩) ?_
          rotate_left 1
          · intro w; go_simp <;> with_reducible rfl
          simp only [Act.put, List.setIfInBounds_toArray, List.set_cons_zero, List.set_cons_succ]
          refine wpAny_ready (rs := [8]) (by decide +kernel) (by simp) ?_
          refine AllReady.cons rfl (fun KK hK => ?_) AllReady.nil
          go_simp
          refine hK _ _ ?_
          clear hK KK
          obtain ⟨u3, hw⟩ : ∃ v, v = u2.alloc (.cells #[.string (four n1 ++ four n2)] 9) := ⟨_, rfl⟩
          rw [← hw]
          have hst : Below u2.heap.size u2 u3 := by rw [hw]; exact al _ _
          have hB3 := bstep hB2 hB2.size hst
          have hown := hown.later hst
          have hr1 : Row u3 u3.heap.size (some ⟨u2.heap.size, 0, none⟩) [.string (four n1 ++ four n2)] := by rw [hw]; exact row_one _ _ _
          clear hw hst
          refine wpAny_ready (rs := [9]) (by decide +kernel) (by simp) ?_
          refine AllReady.cons rfl (fun KK hK => ?_) AllReady.nil
          have hbs := Nat.le_trans HSZ.out hB3.size
          obtain ⟨A2, c2, u4, hrun, hown2, hg⟩ := run_append_row (P := Try.prog) 39 el_s (c2 := 1) hown hr1 (by simp [Value.oneCell']) (by rw [HLN.out]; simp [maxLen]; omega) (by rw [HLN.out]; simp; omega) hbs
          have hB4 : Below W.heap.size W u4 := hown.below (hBW.trans (hB3.mono HSZ.out)) hg (Nat.le_refl _) hbs
          rw [HLN.out] at hrun
          refine step_append_d (d := 21) rfl rfl (.tmp 12) (.tmp 20) 39 39 rfl (vs := .slice A k c') (vx := .slice (some ⟨u2.heap.size, 0, none⟩) 1 1) (by simp [Act.eval]) (by simp [Act.eval]) hrun ?_
          refine hK _ _ ?_
          clear hK KK hrun
          simp only [Act.put, List.setIfInBounds_toArray, List.set_cons_zero, List.set_cons_succ]
          refine Reg.take_at (i := 10) (d := 3) (v := ?_) rfl rfl (by kernel_rfl) (by kernel_rfl) (by kernel_rfl) (fun _ _ _ h => h) (Or.inl ⟨by rfl, ?_⟩) ?_
          rotate_left 1
          · intro w; go_simp <;> with_reducible rfl
          simp only [Act.put, List.setIfInBounds_toArray, List.set_cons_zero, List.set_cons_succ]
          refine wpAny_done (by kernel_rfl) ?_ _
          go_wp2_with fail
          go_roundw
          case rel => exact ⟨k + 1, A2, c2, by omega, by go_num, rfl, by rw [HT.out]; exact hown2, hB4⟩
          case measure => simp [intOf]; omega
        refine AllReady.cons rfl (fun KK hK => ?_) AllReady.nil
        obtain ⟨h1, h2⟩ := HC.out _ hB0
        go_simp
        refine hK _ _ ?_
        clear hK KK h1 h2
        refine wpAny_ready (rs := [3]) (by decide +kernel) (by simp) ?_
        refine AllReady.cons rfl (fun KK hK => ?_) AllReady.nil
        go_simp
        refine (text_any u0 n1 (by omega)).mono ?_
        rintro e u1 ⟨rfl, hst⟩
        have hB1 := bstep hB0 hB0.size hst
        have hown := hown.later hst
        clear hst
        go_simp
        refine hK _ _ ?_
        clear hK KK
        refine wpAny_ready (rs := [6]) (by decide +kernel) (by simp) ?_
        refine AllReady.cons rfl (fun KK hK => ?_) AllReady.nil
        go_simp
        refine (text_any u1 n2 (by omega)).mono ?_
        rintro e u2 ⟨rfl, hst⟩
        have hB2 := bstep hB1 hB1.size hst
        have hown := hown.later hst
        clear hst
        go_simp
        refine hK _ _ ?_
        clear hK KK
        refine Reg.take_at (i := 7) (d := 19) (v := ?_) rfl rfl (by kernel_rfl) (by kernel_rfl) (by kernel_rfl) (fun _ _ _ h => h) (Or.inl ⟨by rfl, ?_⟩) ?_
        rotate_left 1
        · intro w; go_simp <;> with_reducible rfl
        simp only [Act.put, List.setIfInBounds_toArray, List.set_cons_zero, List.set_cons_succ]
        refine wpAny_ready (rs := [8]) (by decide +kernel) (by simp) ?_
        refine AllReady.cons rfl (fun KK hK => ?_) AllReady.nil
        go_simp
        refine hK _ _ ?_
        clear hK KK
        obtain ⟨u3, hw⟩ : ∃ v, v = u2.alloc (.cells #[.string (four n1 ++ four n2)] 9) := ⟨_, rfl⟩
        rw [← hw]
        have hst : Below u2.heap.size u2 u3 := by rw [hw]; exact al _ _
        have hB3 := bstep hB2 hB2.size hst
        have hown := hown.later hst
        have hr1 : Row u3 u3.heap.size (some ⟨u2.heap.size, 0, none⟩) [.string (four n1 ++ four n2)] := by rw [hw]; exact row_one _ _ _
        clear hw hst
        refine wpAny_ready (rs := [9]) (by decide +kernel) (by simp) ?_
        refine AllReady.cons rfl (fun KK hK => ?_) AllReady.nil
        have hbs := Nat.le_trans HSZ.out hB3.size
        obtain ⟨A2, c2, u4, hrun, hown2, hg⟩ := run_append_row (P := Try.prog) 39 el_s (c2 := 1) hown hr1 (by simp [Value.oneCell']) (by rw [HLN.out]; simp [maxLen]; omega) (by rw [HLN.out]; simp; omega) hbs
        have hB4 : Below W.heap.size W u4 := hown.below (hBW.trans (hB3.mono HSZ.out)) hg (Nat.le_refl _) hbs
        rw [HLN.out] at hrun
        refine step_append_d (d := 21) rfl rfl (.tmp 12) (.tmp 20) 39 39 rfl (vs := .slice A k c') (vx := .slice (some ⟨u2.heap.size, 0, none⟩) 1 1) (by simp [Act.eval]) (by simp [Act.eval]) hrun ?_
        refine hK _ _ ?_
        clear hK KK hrun
        simp only [Act.put, List.setIfInBounds_toArray, List.set_cons_zero, List.set_cons_succ]
        refine Reg.take_at (i := 10) (d := 3) (v := ?_) rfl rfl (by kernel_rfl) (by kernel_rfl) (by kernel_rfl) (fun _ _ _ h => h) (Or.inl ⟨by rfl, ?_⟩) ?_
        rotate_left 1
        · intro w; go_simp <;> with_reducible rfl
        simp only [Act.put, List.setIfInBounds_toArray, List.set_cons_zero, List.set_cons_succ]
        refine wpAny_done (by kernel_rfl) ?_ _
        go_wp2_with fail
        go_roundw
        case rel => exact ⟨k + 1, A2, c2, by omega, by go_num, rfl, by rw [HT.out]; exact hown2, hB4⟩
        case measure => simp [intOf]; omega
      refine AllReady.cons rfl (fun KK hK => ?_) AllReady.nil
      obtain ⟨h1, h2⟩ := HC.out _ hB0
      go_simp
      refine hK _ _ ?_
      clear hK KK h1 h2
      refine wpAny_ready (rs := [2]) (by decide +kernel) (by simp) ?_
      refine AllReady.cons rfl (fun KK hK => ?_) AllReady.nil
      obtain ⟨h1, h2⟩ := HC.out _ hB0
      go_simp
      refine hK _ _ ?_
      clear hK KK h1 h2
      refine wpAny_ready (rs := [3]) (by decide +kernel) (by simp) ?_
      refine AllReady.cons rfl (fun KK hK => ?_) AllReady.nil
      go_simp
      refine (text_any u0 n1 (by omega)).mono ?_
      rintro e u1 ⟨rfl, hst⟩
      have hB1 := bstep hB0 hB0.size hst
      have hown := hown.later hst
      clear hst
      go_simp
      refine hK _ _ ?_
      clear hK KK
      refine wpAny_ready (rs := [6]) (by decide +kernel) (by simp) ?_
      refine AllReady.cons rfl (fun KK hK => ?_) AllReady.nil
      go_simp
      refine (text_any u1 n2 (by omega)).mono ?_
      rintro e u2 ⟨rfl, hst⟩
      have hB2 := bstep hB1 hB1.size hst
      have hown := hown.later hst
      clear hst
      go_simp
      refine hK _ _ ?_
      clear hK KK
      refine Reg.take_at (i := 7) (d := 19) (v := ?_) rfl rfl (by kernel_rfl) (by kernel_rfl) (by kernel_rfl) (fun _ _ _ h => h) (Or.inl ⟨by rfl, ?_⟩) ?_
      rotate_left 1
      · intro w; go_simp <;> with_reducible rfl
      simp only [Act.put, List.setIfInBounds_toArray, List.set_cons_zero, List.set_cons_succ]
      refine wpAny_ready (rs := [8]) (by decide +kernel) (by simp) ?_
      refine AllReady.cons rfl (fun KK hK => ?_) AllReady.nil
      go_simp
      refine hK _ _ ?_
      clear hK KK
      obtain ⟨u3, hw⟩ : ∃ v, v = u2.alloc (.cells #[.string (four n1 ++ four n2)] 9) := ⟨_, rfl⟩
      rw [← hw]
      have hst : Below u2.heap.size u2 u3 := by rw [hw]; exact al _ _
      have hB3 := bstep hB2 hB2.size hst
      have hown := hown.later hst
      have hr1 : Row u3 u3.heap.size (some ⟨u2.heap.size, 0, none⟩) [.string (four n1 ++ four n2)] := by rw [hw]; exact row_one _ _ _
      clear hw hst
      refine wpAny_ready (rs := [9]) (by decide +kernel) (by simp) ?_
      refine AllReady.cons rfl (fun KK hK => ?_) AllReady.nil
      have hbs := Nat.le_trans HSZ.out hB3.size
      obtain ⟨A2, c2, u4, hrun, hown2, hg⟩ := run_append_row (P := Try.prog) 39 el_s (c2 := 1) hown hr1 (by simp [Value.oneCell']) (by rw [HLN.out]; simp [maxLen]; omega) (by rw [HLN.out]; simp; omega) hbs
      have hB4 : Below W.heap.size W u4 := hown.below (hBW.trans (hB3.mono HSZ.out)) hg (Nat.le_refl _) hbs
      rw [HLN.out] at hrun
      refine step_append_d (d := 21) rfl rfl (.tmp 12) (.tmp 20) 39 39 rfl (vs := .slice A k c') (vx := .slice (some ⟨u2.heap.size, 0, none⟩) 1 1) (by simp [Act.eval]) (by simp [Act.eval]) hrun ?_
      refine hK _ _ ?_
      clear hK KK hrun
      simp only [Act.put, List.setIfInBounds_toArray, List.set_cons_zero, List.set_cons_succ]
      refine Reg.take_at (i := 10) (d := 3) (v := ?_) rfl rfl (by kernel_rfl) (by kernel_rfl) (by kernel_rfl) (fun _ _ _ h => h) (Or.inl ⟨by rfl, ?_⟩) ?_
      rotate_left 1
      · intro w; go_simp <;> with_reducible rfl
      simp only [Act.put, List.setIfInBounds_toArray, List.set_cons_zero, List.set_cons_succ]
      refine wpAny_done (by kernel_rfl) ?_ _
      go_wp2_with fail
      go_roundw
      case rel => exact ⟨k + 1, A2, c2, by omega, by go_num, rfl, by rw [HT.out]; exact hown2, hB4⟩
      case measure => simp [intOf]; omega
    · obtain rfl : k = l.length := by omega
      have HE := Lib.hid (show (texts l).take l.length = texts l by rw [List.take_of_length_le (by rw [texts_len]; exact Nat.le_refl _)])
      rw [HE.out] at hown
      go_wp2_with fail
      go_ret
      exact ⟨_, _, _, rfl, rfl, hown, hb⟩
end Go.Proofs.Ytffbmabhlgfjkaa.FreeCellsOf
