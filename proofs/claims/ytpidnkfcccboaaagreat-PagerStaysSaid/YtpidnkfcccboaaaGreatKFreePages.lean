/- FreeText, FreeCellsOf, FreePages. -/
import Derived.Test.YtpidnkfcccboaaaGreatKFreeCheck
import Derived.Test.YtpidnkfcccboaaaGreatKPlumb
import Derived.Test.YtpidnkfcccboaaaGreatKStr
namespace Go.Proofs.YtpidnkfcccboaaaGreat.FreeText
open Go.RowKit Base FreePlain FreeMem

theorem conv_row {w : World} {B : Nat} {A : Option Addr} {l : List UInt8} (hr : Row w B A (bv l)) (n c : Nat) (hn : n = l.length) : (convert 96 9 (.slice A n c)).run Tryz.prog w = .ok (.string ⟨l.toArray⟩) w := by
 subst hn
 exact conv_bytes (P := Tryz.prog) Tryz.underlying96 Tryz.underlying5 Tryz.underlying9 c hr
/-- a number as four bytes -/
def four (n : Nat) : ByteArray := ⟨[UInt8.ofNat (n / 16777216), UInt8.ofNat (n / 65536), UInt8.ofNat (n / 256), UInt8.ofNat n].toArray⟩
theorem four_conv (w : World) (n : Nat) (h : n ≤ 4294967295) : (convert 96 9 (.slice (some ⟨w.heap.size, 0, none⟩) 4 4)).run Tryz.prog (w.alloc (.cells #[.int .u8 ((n : Int) / 16777216), .int .u8 ((n : Int) / 65536 % 256), .int .u8 ((n : Int) / 256 % 256), .int .u8 ((n : Int) % 256)] 5)) = .ok (.string (four n)) (w.alloc (.cells #[.int .u8 ((n : Int) / 16777216), .int .u8 ((n : Int) / 65536 % 256), .int .u8 ((n : Int) / 256 % 256), .int .u8 ((n : Int) % 256)] 5)) := by
 have e0 : (n : Int) / 16777216 = ((UInt8.ofNat (n / 16777216)).toNat : Int) := by rw [UInt8.toNat_ofNat']; omega
 have e1 : (n : Int) / 65536 % 256 = ((UInt8.ofNat (n / 65536)).toNat : Int) := by rw [UInt8.toNat_ofNat']; omega
 have e2 : (n : Int) / 256 % 256 = ((UInt8.ofNat (n / 256)).toNat : Int) := by rw [UInt8.toNat_ofNat']; omega
 have e3 : (n : Int) % 256 = ((UInt8.ofNat n).toNat : Int) := by rw [UInt8.toNat_ofNat']; omega
 rw [e0, e1, e2, e3]
 exact conv_row (l := [UInt8.ofNat (n / 16777216), UInt8.ofNat (n / 65536), UInt8.ofNat (n / 256), UInt8.ofNat n]) (row_of_block (heap_alloc_new w _)) 4 4 rfl
set_option maxRecDepth 100000 in
set_option maxHeartbeats 3200000 in
theorem text_any (w : World) (n : Nat) (h : n ≤ 4294967295) :
  Calls Tryz.prog 130 #[.int .i64 (n : Int)] w fun e w' => e = .returned (.string (four n)) ∧ Below w.heap.size w w' := by
 have hcv := four_conv w n h
 have HB := Lib.hid (al w (.cells #[.int .u8 ((n : Int) / 16777216), .int .u8 ((n : Int) / 65536 % 256), .int .u8 ((n : Int) / 256 % 256), .int .u8 ((n : Int) % 256)] 5))
 go_enter Tryz.func130, Tryz.ntmps130
 go_wp2_with fail
 go_ret
 exact ⟨rfl, HB.out⟩
/-- the number of bytes -/
def nb (l : List UInt8) : Nat := l.foldl (fun n b => n * 256 + b.toNat) 0
theorem nb_snoc (l : List UInt8) (b : UInt8) : nb (l ++ [b]) = nb l * 256 + b.toNat := by simp [nb]
theorem or_nat (a b : Nat) (h1 : b < 256) (h3 : a * 256 < 4294967296) : bits .or .i64 ((a : Int) * 256) (b : Int) = ((a * 256 + b : Nat) : Int) := by
 have hx : (a * 256) ||| b < 2 ^ 32 := Nat.or_lt_two_pow (by omega) (by omega)
 have e : (a * 256) ||| b = a * 256 + b := by
  have := Nat.shiftLeft_add_eq_or_of_lt (show b < 2 ^ 8 by omega) a
  rw [Nat.shiftLeft_eq] at this
  exact this.symm
 have o : ∀ n : Nat, n < 4294967296 → (BitVec.ofInt 64 (n : Int)).toNat = n := fun n hn => by simp; omega
 show IntKind.i64.wrap ((BitVec.ofInt 64 ((a : Int) * 256) ||| BitVec.ofInt 64 (b : Int)).toNat : Int) = _
 rw [show (a : Int) * 256 = ((a * 256 : Nat) : Int) by omega, BitVec.toNat_or, o (a * 256) h3, o b (by omega), ← e]
 exact IntWalk.i64_in _ (by omega)
theorem nb_lt : ∀ (k : Nat) (l : List UInt8), l.length = k → nb l < 256 ^ k
 | 0, l, h => by rw [List.length_eq_zero_iff.1 h]; simp [nb]
 | k + 1, l, h => by
  have hne : l ≠ [] := by intro e; subst e; cases h
  rw [← List.dropLast_concat_getLast hne, nb_snoc]
  have h1 := nb_lt k l.dropLast (by simp [h])
  have h2 := UInt8.toNat_lt (l.getLast hne)
  rw [Nat.pow_succ]
  omega
theorem nb_four (n : Nat) (h : n ≤ 4294967295) : nb (four n).data.toList = n := by
 show (((0 * 256 + (UInt8.ofNat (n / 16777216)).toNat) * 256 + (UInt8.ofNat (n / 65536)).toNat) * 256 + (UInt8.ofNat (n / 256)).toNat) * 256 + (UInt8.ofNat n).toNat = n
 simp only [UInt8.toNat_ofNat']
 omega
theorem four_nb : ∀ (l : List UInt8), l.length = 4 → (four (nb l)).data.toList = l
 | [a, b, c, d], _ => by
  have ha := UInt8.toNat_lt a
  have hb := UInt8.toNat_lt b
  have hc := UInt8.toNat_lt c
  have hd := UInt8.toNat_lt d
  have f : ∀ (m : Nat) (x : UInt8), m % 256 = x.toNat → UInt8.ofNat m = x := fun m x hm => by
   apply UInt8.toNat_inj.1
   rw [UInt8.toNat_ofNat']
   exact hm
  show [UInt8.ofNat (((((0 * 256 + a.toNat) * 256 + b.toNat) * 256 + c.toNat) * 256 + d.toNat) / 16777216), UInt8.ofNat (((((0 * 256 + a.toNat) * 256 + b.toNat) * 256 + c.toNat) * 256 + d.toNat) / 65536), UInt8.ofNat (((((0 * 256 + a.toNat) * 256 + b.toNat) * 256 + c.toNat) * 256 + d.toNat) / 256), UInt8.ofNat ((((0 * 256 + a.toNat) * 256 + b.toNat) * 256 + c.toNat) * 256 + d.toNat)] = [a, b, c, d]
  simp only [List.cons.injEq, and_true]
  exact ⟨f _ _ (by omega), f _ _ (by omega), f _ _ (by omega), f _ _ (by omega)⟩
set_option maxRecDepth 100000 in
set_option maxHeartbeats 3200000 in
theorem number_any (w : World) (q : ByteArray) (h : q.size = 4) :
  Calls Tryz.prog 100 #[.string q] w fun e w' => e = .returned (.int .i64 (nb q.data.toList)) ∧ w' = w := by
 have h4 : (q.size : Int) = 4 := by omega
 go_enter Tryz.func100, Tryz.ntmps100
 go_wp2_with fail
 go_loopw [3, 4, 7] (fun n _ i wr => ∃ k : Nat, k ≤ 4 ∧ i = .int .i64 k ∧ n = .int .i64 (nb (q.data.toList.take k)) ∧ wr = w) (fun _ _ i _ => 4 - (intOf i).toNat)
 case atStart => exact ⟨0, by omega, rfl, rfl, rfl⟩
 case round =>
  obtain ⟨k, hk, rfl, rfl, hw⟩ := hrel
  have hw := hw.symm
  subst hw
  by_cases hlt : k < 4
  ·have hkq : k < q.size := by omega
   have hkl : k < q.data.toList.length := hkq
   have hlt' := nb_lt k (q.data.toList.take k) (by rw [List.length_take]; omega)
   have hb : nb (q.data.toList.take k) < 16777216 := by
    have : k = 0 ∨ k = 1 ∨ k = 2 ∨ k = 3 := by omega
    rcases this with rfl | rfl | rfl | rfl <;> simp at hlt' ⊢ <;> omega
   have HT := Lib.hid (show nb (q.data.toList.take (k + 1)) = nb (q.data.toList.take k) * 256 + (q[k]).toNat by
    rw [List.take_succ_eq_append_getElem hkl, nb_snoc]
    rfl)
   have hq2 := UInt8.toNat_lt q[k]
   have ho := or_nat (nb (q.data.toList.take k)) (q[k]).toNat (by omega) (by omega)
   clear hlt'
   generalize nb (q.data.toList.take k) = m at *
   go_wp2_with fail
   go_roundw
   case rel => exact ⟨k + 1, by omega, by go_num, by rw [HT.out]; simp, trivial⟩
   case measure => simp [intOf]; omega
  ·obtain rfl : k = 4 := by omega
   have HT := Lib.hid (show nb (q.data.toList.take 4) = nb q.data.toList by rw [List.take_of_length_le (by show q.size ≤ 4; omega)])
   rw [HT.out]
   go_wp2_with fail
   go_ret
   exact ⟨rfl, rfl⟩
end Go.Proofs.YtpidnkfcccboaaaGreat.FreeText
namespace Go.Proofs.YtpidnkfcccboaaaGreat.FreeCellsOf
open Go.RowKit Base FreePlain FreeMem FreeText

theorem bstep {g : Nat} {W w w' : World} (h : Below g W w) (hg : g ≤ w.heap.size) (hb : Below w.heap.size w w') : Below g W w' := h.trans (hb.mono hg)
set_option maxRecDepth 100000 in
theorem step_append_run {P : Program} {w : World} {ops : Array Oper} {o : Oper} {a : Act} {K : Act → World → Prop} {Q : Exit → Act → World → Prop} {E : Prop} (hg : o.guard = none) (s x : Operand) (t u : TypeId)
  (hop : o.op = Op.call { callee := Callee.builtin Builtin.append, args := #[s, x], argTypes := #[t, u] }) {vs vx v : Value} {w' : World} (hs : a.eval s = vs) (hx : a.eval x = vx)
  (hrun : (Builtin.append_ #[t, u] o.type #[vs, vx]).run P w = .ok v w') (hK : K (a.put o.dst v) w') : if Region.wanted o (yielded ops a.tmps) = true then Oper.wp P o a w K Q else E := by
 have hw : Region.wanted o (yielded ops a.tmps) = true := by simp [Region.wanted, hg]
 rw [if_pos hw]
 unfold Oper.wp
 simp [execOp, hop, resolve, invoke, builtin, hs, hx, hrun, Result.andThen]
 exact hK
theorem step_append_d {P : Program} {w : World} {ops : Array Oper} {o : Oper} {a : Act} {K : Act → World → Prop} {Q : Exit → Act → World → Prop} {E : Prop} {d : Tmp} (hg : o.guard = none) (hd : o.dst = some d) (s x : Operand) (t u : TypeId)
  (hop : o.op = Op.call { callee := Callee.builtin Builtin.append, args := #[s, x], argTypes := #[t, u] }) {vs vx v : Value} {w' : World} (hs : a.eval s = vs) (hx : a.eval x = vx)
  (hrun : (Builtin.append_ #[t, u] o.type #[vs, vx]).run P w = .ok v w') (hK : K (a.put (some d) v) w') : if Region.wanted o (yielded ops a.tmps) = true then Oper.wp P o a w K Q else E :=
 step_append_run hg s x t u hop hs hx hrun (by rw [hd]; exact hK)
def strs (cs : List ByteArray) : List Value := cs.map Value.string
theorem strs_len (cs : List ByteArray) : (strs cs).length = cs.length := by simp [strs]
theorem row_one (w : World) (v : Value) (t : TypeId) : Row (w.alloc (.cells #[v] t)) (w.alloc (.cells #[v] t)).heap.size (some ⟨w.heap.size, 0, none⟩) [v] := (row_of_block (heap_alloc_new w (.cells #[v] t))).more (by simp)
theorem el_s : Elem Tryz.prog 37 9 16 := elem_mk (z := .string ⟨#[]⟩) Tryz.underlying37 (by kernel_rfl) rfl
/-- a cell, and a list's cells -/
def cell (p : Int × Int) : ByteArray := four p.1.toNat ++ four p.2.toNat
def texts (l : Fs) : List ByteArray := l.map cell
theorem texts_len (l : Fs) : (texts l).length = l.length := by simp [texts]
set_option maxRecDepth 100000 in
set_option maxHeartbeats 6400000 in
theorem cellsOf_any (W : World) (A0 : Option Addr) (n c : Nat) (l : Fs) (hn : n = l.length) (hr : Row W W.heap.size A0 (fr l)) (hl : l.length ≤ 1000) (hf : ∀ p ∈ l, Fit p) :
  Calls Tryz.prog 115 #[.slice A0 n c] W fun e w' => ∃ A' m' c', e = .returned (.slice A' m' c') ∧ m' = l.length ∧ Own w' W.heap.size 9 A' c' (strs (texts l)) ∧ Below W.heap.size W w' := by
 subst hn
 have HR := Lib.hid hr
 clear hr
 go_enter Tryz.func115, Tryz.ntmps115
 go_wp2_with fail
 go_loopw [3, 5, 8] (fun v _ i wr => ∃ (k : Nat) (A : Option Addr) (c' : Nat), k ≤ l.length ∧ i = .int .i64 k ∧ v = .slice A k c' ∧ Own wr W.heap.size 9 A c' (strs ((texts l).take k)) ∧ Below W.heap.size W wr) (fun _ _ i _ => l.length - (intOf i).toNat)
 case atStart => exact ⟨0, none, 0, by omega, rfl, rfl, Own.nil _ _ _, Below.refl _ _⟩
 case round =>
  obtain ⟨k, A, c', hk, rfl, rfl, hown, hb⟩ := hrel
  by_cases hlt : k < l.length
  ·obtain ⟨ad, hA, hblk, hc1, hc2⟩ := row_at HR.out k hlt
   subst hA
   have cc1 := (hb.cell (p := ad.add (k * 2)) (by rw [blk_add]; exact hblk)).trans hc1
   have cc2 := (hb.cell (p := ⟨(ad.add (k * 2)).block, (ad.add (k * 2)).off + 1, none⟩) (by show (ad.add (k * 2)).block < _; rw [blk_add]; exact hblk)).trans hc2
   clear hc1 hc2
   obtain ⟨f1, f2, f3, f4⟩ := hf _ (List.getElem_mem hlt)
   obtain ⟨n1, hn1⟩ := Int.eq_ofNat_of_zero_le (show 0 ≤ (l[k]).1 by omega)
   obtain ⟨n2, hn2⟩ := Int.eq_ofNat_of_zero_le f3
   have HT := Lib.hid (show strs ((texts l).take (k + 1)) = strs ((texts l).take k) ++ [.string (four n1 ++ four n2)] by
    rw [List.take_succ_eq_append_getElem (by rw [texts_len]; exact hlt)]
    simp only [texts, strs, List.map_append, List.map_cons, List.map_nil, List.getElem_map, cell, hn1, hn2]
    rfl)
   have HLN := Lib.hid (show (strs ((texts l).take k)).length = k by rw [strs_len, List.length_take, texts_len]; omega)
   rw [hn1] at cc1 f1 f2
   rw [hn2] at cc2 f3 f4
   clear hn1 hn2
   have hs1 : (four n1).size = 4 := rfl
   have hs2 : (four n2).size = 4 := rfl
   go_wp2_with fail
   clear cc1 cc2
   generalize hgg : wr.heap.size = g
   refine wp_region_any (by kernel_rfl) ?_
   change wpAny _ _ _ _ _ _ _ (World.drew _)
   obtain ⟨u0, hu0⟩ : ∃ v, v = World.drew (wr.alloc (.cells #[.int .i64 (n1 : Int), .int .i64 (n2 : Int)] 66)) := ⟨_, rfl⟩
   rw [← hu0]
   have hB0 := Below.refl u0.heap.size u0
   have hBW : Below W.heap.size W u0 := by rw [hu0]; exact (bstep hb hb.size (al _ _)).drew
   have HSZ := Lib.hid hBW.size
   have hown : Own u0 W.heap.size 9 A c' (strs ((texts l).take k)) := by rw [hu0]; exact hown.alloc _
   have HC := Lib.hid (show ∀ w', Below u0.heap.size u0 w' → w'.cell? ⟨g, 0, none⟩ = some (.int .i64 (n1 : Int)) ∧ w'.cell? ⟨g, 0 + 1, none⟩ = some (.int .i64 (n2 : Int)) from fun w' hw => by
    have hg : g < u0.heap.size := by rw [hu0, ← hgg]; simp
    have e0 : u0.cell? ⟨g, 0, none⟩ = some (.int .i64 (n1 : Int)) := by rw [hu0, ← hgg]; simp
    have e1 : u0.cell? ⟨g, 0 + 1, none⟩ = some (.int .i64 (n2 : Int)) := by rw [hu0, ← hgg]; simp
    exact ⟨(hw.cell (p := ⟨g, 0, none⟩) hg).trans e0, (hw.cell (p := ⟨g, 0 + 1, none⟩) hg).trans e1⟩)
   clear hu0 hb hgg
   refine Reg.take_at (i := 0) (d := 12) (v := ?_) rfl rfl (by kernel_rfl) (by kernel_rfl) (by kernel_rfl) (fun _ _ _ h => h) (Or.inl ⟨by rfl, ?_⟩) ?_
   rotate_left 1
   ·intro w; go_simp <;> with_reducible rfl
   simp only [Act.put, List.setIfInBounds_toArray, List.set_cons_zero, List.set_cons_succ]
   refine Reg.take_at (i := 1) (d := 13) (v := ?_) rfl rfl (by kernel_rfl) (by kernel_rfl) (by kernel_rfl) (fun _ _ _ h => h) (Or.inl ⟨by rfl, ?_⟩) ?_
   rotate_left 1
   ·intro w; go_simp <;> with_reducible rfl
   simp only [Act.put, List.setIfInBounds_toArray, List.set_cons_zero, List.set_cons_succ]
   refine Reg.take_at (i := 4) (d := 16) (v := ?_) rfl rfl (by kernel_rfl) (by kernel_rfl) (by kernel_rfl) (fun _ _ _ h => h) (Or.inl ⟨by rfl, ?_⟩) ?_
   rotate_left 1
   ·intro w; go_simp <;> with_reducible rfl
   simp only [Act.put, List.setIfInBounds_toArray, List.set_cons_zero, List.set_cons_succ]
   refine wpAny_ready (rs := [2, 5]) (by decide +kernel) (by simp) ?_
   refine AllReady.cons rfl (fun KK hK => ?_) ?_
   ·obtain ⟨h1, h2⟩ := HC.out _ hB0
    go_simp
    refine hK _ _ ?_
    clear hK KK h1 h2
    refine wpAny_ready (rs := [3, 5]) (by decide +kernel) (by simp) ?_
    refine AllReady.cons rfl (fun KK hK => ?_) ?_
    ·go_simp
     refine (text_any u0 n1 (by omega)).mono ?_
     rintro e u1 ⟨rfl, hst⟩
     have hB1 := bstep hB0 hB0.size hst
     have hown := hown.later hst
     clear hst
     go_simp
     refine hK _ _ ?_
     clear hK KK
     refine wpAny_ready (rs := [5]) (by decide +kernel) (by simp) ?_
     refine AllReady.cons rfl (fun KK hK => ?_) AllReady.nil
     obtain ⟨h1, h2⟩ := HC.out _ hB1
     go_simp
     refine hK _ _ ?_
     clear hK KK h1 h2
     refine wpAny_ready (rs := [6]) (by decide +kernel) (by simp) ?_
     refine AllReady.cons rfl (fun KK hK => ?_) AllReady.nil
     go_simp
     refine (text_any u1 n2 (by omega)).mono ?_
     rintro e u2 ⟨rfl, hst⟩
     have hB2 := bstep hB1 hB1.size hst
     have hown := hown.later hst
     clear hst
     go_simp
     refine hK _ _ ?_
     clear hK KK
     refine Reg.take_at (i := 7) (d := 19) (v := ?_) rfl rfl (by kernel_rfl) (by kernel_rfl) (by kernel_rfl) (fun _ _ _ h => h) (Or.inl ⟨by rfl, ?_⟩) ?_
     rotate_left 1
     ·intro w; go_simp <;> with_reducible rfl
     simp only [Act.put, List.setIfInBounds_toArray, List.set_cons_zero, List.set_cons_succ]
     refine wpAny_ready (rs := [8]) (by decide +kernel) (by simp) ?_
     refine AllReady.cons rfl (fun KK hK => ?_) AllReady.nil
     go_simp
     refine hK _ _ ?_
     clear hK KK
     obtain ⟨u3, hw⟩ : ∃ v, v = u2.alloc (.cells #[.string (four n1 ++ four n2)] 9) := ⟨_, rfl⟩
     rw [← hw]
     have hst : Below u2.heap.size u2 u3 := by rw [hw]; exact al _ _
     have hB3 := bstep hB2 hB2.size hst
     have hown := hown.later hst
     have hr1 : Row u3 u3.heap.size (some ⟨u2.heap.size, 0, none⟩) [.string (four n1 ++ four n2)] := by rw [hw]; exact row_one _ _ _
     clear hw hst
     refine wpAny_ready (rs := [9]) (by decide +kernel) (by simp) ?_
     refine AllReady.cons rfl (fun KK hK => ?_) AllReady.nil
     have hbs := Nat.le_trans HSZ.out hB3.size
     obtain ⟨A2, c2, u4, hrun, hown2, hg⟩ := run_append_row (P := Tryz.prog) 37 el_s (c2 := 1) hown hr1 (by simp [Value.oneCell']) (by rw [HLN.out]; simp [maxLen]; omega) (by rw [HLN.out]; simp; omega) hbs
     have hB4 : Below W.heap.size W u4 := hown.below (hBW.trans (hB3.mono HSZ.out)) hg (Nat.le_refl _) hbs
     rw [HLN.out] at hrun
     refine step_append_d (d := 21) rfl rfl (.tmp 12) (.tmp 20) 37 37 rfl (vs := .slice A k c') (vx := .slice (some ⟨u2.heap.size, 0, none⟩) 1 1) (by simp [Act.eval]) (by simp [Act.eval]) hrun ?_
     refine hK _ _ ?_
     clear hK KK hrun
     simp only [Act.put, List.setIfInBounds_toArray, List.set_cons_zero, List.set_cons_succ]
     refine Reg.take_at (i := 10) (d := 3) (v := ?_) rfl rfl (by kernel_rfl) (by kernel_rfl) (by kernel_rfl) (fun _ _ _ h => h) (Or.inl ⟨by rfl, ?_⟩) ?_
     rotate_left 1
     ·intro w; go_simp <;> with_reducible rfl
     simp only [Act.put, List.setIfInBounds_toArray, List.set_cons_zero, List.set_cons_succ]
     refine wpAny_done (by kernel_rfl) ?_ _
     go_wp2_with fail
     go_roundw
     case rel => exact ⟨k + 1, A2, c2, by omega, by go_num, rfl, by rw [HT.out]; exact hown2, hB4⟩
     case measure => simp [intOf]; omega
    refine AllReady.cons rfl (fun KK hK => ?_) AllReady.nil
    obtain ⟨h1, h2⟩ := HC.out _ hB0
    go_simp
    refine hK _ _ ?_
    clear hK KK h1 h2
    refine wpAny_ready (rs := [3]) (by decide +kernel) (by simp) ?_
    refine AllReady.cons rfl (fun KK hK => ?_) AllReady.nil
    go_simp
    refine (text_any u0 n1 (by omega)).mono ?_
    rintro e u1 ⟨rfl, hst⟩
    have hB1 := bstep hB0 hB0.size hst
    have hown := hown.later hst
    clear hst
    go_simp
    refine hK _ _ ?_
    clear hK KK
    refine wpAny_ready (rs := [6]) (by decide +kernel) (by simp) ?_
    refine AllReady.cons rfl (fun KK hK => ?_) AllReady.nil
    go_simp
    refine (text_any u1 n2 (by omega)).mono ?_
    rintro e u2 ⟨rfl, hst⟩
    have hB2 := bstep hB1 hB1.size hst
    have hown := hown.later hst
    clear hst
    go_simp
    refine hK _ _ ?_
    clear hK KK
    refine Reg.take_at (i := 7) (d := 19) (v := ?_) rfl rfl (by kernel_rfl) (by kernel_rfl) (by kernel_rfl) (fun _ _ _ h => h) (Or.inl ⟨by rfl, ?_⟩) ?_
    rotate_left 1
    ·intro w; go_simp <;> with_reducible rfl
    simp only [Act.put, List.setIfInBounds_toArray, List.set_cons_zero, List.set_cons_succ]
    refine wpAny_ready (rs := [8]) (by decide +kernel) (by simp) ?_
    refine AllReady.cons rfl (fun KK hK => ?_) AllReady.nil
    go_simp
    refine hK _ _ ?_
    clear hK KK
    obtain ⟨u3, hw⟩ : ∃ v, v = u2.alloc (.cells #[.string (four n1 ++ four n2)] 9) := ⟨_, rfl⟩
    rw [← hw]
    have hst : Below u2.heap.size u2 u3 := by rw [hw]; exact al _ _
    have hB3 := bstep hB2 hB2.size hst
    have hown := hown.later hst
    have hr1 : Row u3 u3.heap.size (some ⟨u2.heap.size, 0, none⟩) [.string (four n1 ++ four n2)] := by rw [hw]; exact row_one _ _ _
    clear hw hst
    refine wpAny_ready (rs := [9]) (by decide +kernel) (by simp) ?_
    refine AllReady.cons rfl (fun KK hK => ?_) AllReady.nil
    have hbs := Nat.le_trans HSZ.out hB3.size
    obtain ⟨A2, c2, u4, hrun, hown2, hg⟩ := run_append_row (P := Tryz.prog) 37 el_s (c2 := 1) hown hr1 (by simp [Value.oneCell']) (by rw [HLN.out]; simp [maxLen]; omega) (by rw [HLN.out]; simp; omega) hbs
    have hB4 : Below W.heap.size W u4 := hown.below (hBW.trans (hB3.mono HSZ.out)) hg (Nat.le_refl _) hbs
    rw [HLN.out] at hrun
    refine step_append_d (d := 21) rfl rfl (.tmp 12) (.tmp 20) 37 37 rfl (vs := .slice A k c') (vx := .slice (some ⟨u2.heap.size, 0, none⟩) 1 1) (by simp [Act.eval]) (by simp [Act.eval]) hrun ?_
    refine hK _ _ ?_
    clear hK KK hrun
    simp only [Act.put, List.setIfInBounds_toArray, List.set_cons_zero, List.set_cons_succ]
    refine Reg.take_at (i := 10) (d := 3) (v := ?_) rfl rfl (by kernel_rfl) (by kernel_rfl) (by kernel_rfl) (fun _ _ _ h => h) (Or.inl ⟨by rfl, ?_⟩) ?_
    rotate_left 1
    ·intro w; go_simp <;> with_reducible rfl
    simp only [Act.put, List.setIfInBounds_toArray, List.set_cons_zero, List.set_cons_succ]
    refine wpAny_done (by kernel_rfl) ?_ _
    go_wp2_with fail
    go_roundw
    case rel => exact ⟨k + 1, A2, c2, by omega, by go_num, rfl, by rw [HT.out]; exact hown2, hB4⟩
    case measure => simp [intOf]; omega
   refine AllReady.cons rfl (fun KK hK => ?_) AllReady.nil
   obtain ⟨h1, h2⟩ := HC.out _ hB0
   go_simp
   refine hK _ _ ?_
   clear hK KK h1 h2
   refine wpAny_ready (rs := [2]) (by decide +kernel) (by simp) ?_
   refine AllReady.cons rfl (fun KK hK => ?_) AllReady.nil
   obtain ⟨h1, h2⟩ := HC.out _ hB0
   go_simp
   refine hK _ _ ?_
   clear hK KK h1 h2
   refine wpAny_ready (rs := [3]) (by decide +kernel) (by simp) ?_
   refine AllReady.cons rfl (fun KK hK => ?_) AllReady.nil
   go_simp
   refine (text_any u0 n1 (by omega)).mono ?_
   rintro e u1 ⟨rfl, hst⟩
   have hB1 := bstep hB0 hB0.size hst
   have hown := hown.later hst
   clear hst
   go_simp
   refine hK _ _ ?_
   clear hK KK
   refine wpAny_ready (rs := [6]) (by decide +kernel) (by simp) ?_
   refine AllReady.cons rfl (fun KK hK => ?_) AllReady.nil
   go_simp
   refine (text_any u1 n2 (by omega)).mono ?_
   rintro e u2 ⟨rfl, hst⟩
   have hB2 := bstep hB1 hB1.size hst
   have hown := hown.later hst
   clear hst
   go_simp
   refine hK _ _ ?_
   clear hK KK
   refine Reg.take_at (i := 7) (d := 19) (v := ?_) rfl rfl (by kernel_rfl) (by kernel_rfl) (by kernel_rfl) (fun _ _ _ h => h) (Or.inl ⟨by rfl, ?_⟩) ?_
   rotate_left 1
   ·intro w; go_simp <;> with_reducible rfl
   simp only [Act.put, List.setIfInBounds_toArray, List.set_cons_zero, List.set_cons_succ]
   refine wpAny_ready (rs := [8]) (by decide +kernel) (by simp) ?_
   refine AllReady.cons rfl (fun KK hK => ?_) AllReady.nil
   go_simp
   refine hK _ _ ?_
   clear hK KK
   obtain ⟨u3, hw⟩ : ∃ v, v = u2.alloc (.cells #[.string (four n1 ++ four n2)] 9) := ⟨_, rfl⟩
   rw [← hw]
   have hst : Below u2.heap.size u2 u3 := by rw [hw]; exact al _ _
   have hB3 := bstep hB2 hB2.size hst
   have hown := hown.later hst
   have hr1 : Row u3 u3.heap.size (some ⟨u2.heap.size, 0, none⟩) [.string (four n1 ++ four n2)] := by rw [hw]; exact row_one _ _ _
   clear hw hst
   refine wpAny_ready (rs := [9]) (by decide +kernel) (by simp) ?_
   refine AllReady.cons rfl (fun KK hK => ?_) AllReady.nil
   have hbs := Nat.le_trans HSZ.out hB3.size
   obtain ⟨A2, c2, u4, hrun, hown2, hg⟩ := run_append_row (P := Tryz.prog) 37 el_s (c2 := 1) hown hr1 (by simp [Value.oneCell']) (by rw [HLN.out]; simp [maxLen]; omega) (by rw [HLN.out]; simp; omega) hbs
   have hB4 : Below W.heap.size W u4 := hown.below (hBW.trans (hB3.mono HSZ.out)) hg (Nat.le_refl _) hbs
   rw [HLN.out] at hrun
   refine step_append_d (d := 21) rfl rfl (.tmp 12) (.tmp 20) 37 37 rfl (vs := .slice A k c') (vx := .slice (some ⟨u2.heap.size, 0, none⟩) 1 1) (by simp [Act.eval]) (by simp [Act.eval]) hrun ?_
   refine hK _ _ ?_
   clear hK KK hrun
   simp only [Act.put, List.setIfInBounds_toArray, List.set_cons_zero, List.set_cons_succ]
   refine Reg.take_at (i := 10) (d := 3) (v := ?_) rfl rfl (by kernel_rfl) (by kernel_rfl) (by kernel_rfl) (fun _ _ _ h => h) (Or.inl ⟨by rfl, ?_⟩) ?_
   rotate_left 1
   ·intro w; go_simp <;> with_reducible rfl
   simp only [Act.put, List.setIfInBounds_toArray, List.set_cons_zero, List.set_cons_succ]
   refine wpAny_done (by kernel_rfl) ?_ _
   go_wp2_with fail
   go_roundw
   case rel => exact ⟨k + 1, A2, c2, by omega, by go_num, rfl, by rw [HT.out]; exact hown2, hB4⟩
   case measure => simp [intOf]; omega
  ·obtain rfl : k = l.length := by omega
   have HE := Lib.hid (show (texts l).take l.length = texts l by rw [List.take_of_length_le (by rw [texts_len]; exact Nat.le_refl _)])
   rw [HE.out] at hown
   go_wp2_with fail
   go_ret
   exact ⟨_, _, _, rfl, rfl, hown, hb⟩
end Go.Proofs.YtpidnkfcccboaaaGreat.FreeCellsOf
namespace Go.Proofs.YtpidnkfcccboaaaGreat.FreePages
open Go.RowKit Base FreePlain FreeMem FreeText FreeCellsOf

abbrev Cs := List (List ByteArray)
/-- all but the last page are full, none is empty -/
def Shape (cs : Cs) : Prop := ∀ i (h : i < cs.length), (cs[i]).length = 23 ∨ (i + 1 = cs.length ∧ 0 < (cs[i]).length ∧ (cs[i]).length < 23)
def PagesOf (cs : Cs) (l : Fs) : Prop := Shape cs ∧ cs.flatten = texts l
theorem shape_tail {c : List ByteArray} {cs : Cs} (h : Shape (c :: cs)) : Shape cs := fun i hi => by
 have := h (i + 1) (by simpa using hi)
 simpa using this
theorem shape_head {c : List ByteArray} {cs : Cs} (h : Shape (c :: cs)) : 0 < c.length ∧ c.length ≤ 23 ∧ (cs ≠ [] → c.length = 23) := by
 have h1 := h 0 (by simp)
 simp at h1
 refine ⟨by omega, by omega, fun hne => ?_⟩
 rcases h1 with h1 | ⟨h1, _⟩
 ·exact h1
 ·exact absurd h1 (by simpa using hne)
theorem shape_take {c : List ByteArray} {cs : Cs} (h : Shape (c :: cs)) : (c :: cs).flatten.take 23 = c ∧ (c :: cs).flatten.drop 23 = cs.flatten := by
 obtain ⟨_, h2, h3⟩ := shape_head h
 cases cs with
 | nil => simp; exact ⟨List.take_of_length_le h2, h2⟩
 | cons d cs =>
  have h4 := h3 (by simp)
  rw [List.flatten_cons, ← h4]
  simp
/-- what a cell tells -/
def par (q : ByteArray) : Int × Int := ((nb (q.data.toList.take 4) : Nat), (nb (q.data.toList.drop 4) : Nat))
theorem cell_size (p : Int × Int) : (cell p).size = 8 := rfl
theorem cell_par (q : ByteArray) (h : q.size = 8) : cell (par q) = q := by
 have hl : q.data.toList.length = 8 := h
 apply Str.ba_ext
 show ((four _) ++ (four _)).data.toList = _
 have e1 := four_nb (q.data.toList.take 4) (by rw [List.length_take]; omega)
 have e2 := four_nb (q.data.toList.drop 4) (by rw [List.length_drop]; omega)
 have : ∀ a b : ByteArray, (a ++ b).data.toList = a.data.toList ++ b.data.toList := fun a b => by simp
 rw [this]
 show (four ((nb (q.data.toList.take 4) : Int).toNat)).data.toList ++ (four ((nb (q.data.toList.drop 4) : Int).toNat)).data.toList = _
 rw [Int.toNat_natCast, Int.toNat_natCast, e1, e2, List.take_append_drop]
theorem par_cell (p : Int × Int) (h : Fit p) : par (cell p) = p := by
 obtain ⟨h1, h2, h3, h4⟩ := h
 obtain ⟨a, ha⟩ := Int.eq_ofNat_of_zero_le (show 0 ≤ p.1 by omega)
 obtain ⟨b, hb⟩ := Int.eq_ofNat_of_zero_le h3
 have e : (cell p).data.toList = (four p.1.toNat).data.toList ++ (four p.2.toNat).data.toList := by simp [cell]
 have l4 : ∀ n, (four n).data.toList.length = 4 := fun n => rfl
 unfold par
 rw [e, ← l4 p.1.toNat, List.take_left, List.drop_left, nb_four _ (by omega), nb_four _ (by omega)]
 ext <;> simp <;> omega
theorem texts_par {qs : List ByteArray} (h : ∀ q ∈ qs, q.size = 8) : texts (qs.map par) = qs := by
 unfold texts
 rw [List.map_map]
 conv => rhs; rw [← List.map_id qs]
 exact List.map_congr_left fun q hq => cell_par q (h q hq)
theorem par_texts {l : Fs} (h : ∀ p ∈ l, Fit p) : (texts l).map par = l := by
 unfold texts
 rw [List.map_map]
 conv => rhs; rw [← List.map_id l]
 exact List.map_congr_left fun p hp => par_cell p (h p hp)
theorem eight {l : Fs} {cs : Cs} (h : PagesOf cs l) : ∀ c ∈ cs, ∀ q ∈ c, q.size = 8 := fun c hc q hq => by
 have : q ∈ cs.flatten := List.mem_flatten.2 ⟨c, hc, hq⟩
 rw [h.2] at this
 obtain ⟨p, _, rfl⟩ := List.mem_map.1 this
 rfl

set_option maxRecDepth 100000 in
theorem filled_any (W : World) (n : Nat) (b : Bool) (r : Bool) (hr : r = true ↔ n = 23 ∨ (b = true ∧ 0 < n ∧ n < 23)) :
  Calls Tryz.prog 97 #[.int .i64 (n : Int), .bool b] W fun e w' => e = .returned (.bool r) ∧ w' = W := by
 have HR := Lib.hid hr
 clear hr
 by_cases h1 : n = 23
 ·have HE := Lib.hid (show r = true from HR.out.2 (.inl h1))
  subst h1
  go_enter Tryz.func97, Tryz.ntmps97
  go_wp2
  go_ret
  exact ⟨ret_bool (by rw [HE.out]), rfl⟩
 ·have e1 : ((n : Int) == 23) = false := by simp; omega
  cases b with
  | false =>
   have HE := Lib.hid (show r = false from Bool.eq_false_iff.2 fun h => by rcases HR.out.1 h with h | ⟨h, _⟩ <;> first | exact h1 h | cases h)
   clear h1
   go_enter Tryz.func97, Tryz.ntmps97
   go_wp2
   go_ret
   exact ⟨ret_bool (by rw [HE.out]), rfl⟩
  | true =>
   by_cases h2 : 0 < n
   ·by_cases h3 : n < 23
    ·have HE := Lib.hid (show r = true from HR.out.2 (.inr ⟨rfl, h2, h3⟩))
     have e2 : (0 < n) = True := by simp; omega
     have e3 : ((n : Int) < 23) = True := by simp; omega
     clear h1 h2
     go_enter Tryz.func97, Tryz.ntmps97
     go_wp2
     go_ret
     exact ⟨ret_bool (by rw [HE.out]), rfl⟩
    ·have HE := Lib.hid (show r = false from Bool.eq_false_iff.2 fun h => by rcases HR.out.1 h with h | ⟨_, _, h⟩ <;> omega)
     have e2 : (0 < n) = True := by simp; omega
     have e3 : ((n : Int) < 23) = False := by simp; omega
     clear h1 h2
     go_enter Tryz.func97, Tryz.ntmps97
     go_wp2
     go_ret
     exact ⟨ret_bool (by rw [HE.out]), rfl⟩
   ·have HE := Lib.hid (show r = false from Bool.eq_false_iff.2 fun h => by rcases HR.out.1 h with h | ⟨_, h, _⟩ <;> omega)
    obtain rfl : n = 0 := by omega
    clear h1 h2
    go_enter Tryz.func97, Tryz.ntmps97
    go_wp2
    go_ret
    exact ⟨ret_bool (by rw [HE.out]), rfl⟩
set_option maxRecDepth 100000 in
theorem nocell_any (W : World) (q : ByteArray) (r : Bool) (hr : r = true ↔ q.size ≠ 8) : Calls Tryz.prog 99 #[.string q] W fun e w' => e = .returned (.bool r) ∧ w' = W := by
 have HR := Lib.hid (show ((q.size : Int) != 8) = r by rw [Bool.eq_iff_iff, hr]; simp; omega)
 clear hr
 go_enter Tryz.func99, Tryz.ntmps99
 go_wp2
 go_ret
 exact ⟨ret_bool (by rw [← HR.out]), rfl⟩
theorem strs_get {w : World} {B : Nat} {A : Option Addr} {cs : List ByteArray} (h : Row w B A (strs cs)) (k : Nat) (hk : k < cs.length) : ∃ ad, A = some ad ∧ ad.block < B ∧ w.cell? (ad.add k) = some (.string cs[k]) := by
 obtain ⟨ad, e, hb, hc⟩ := h.get k (by rw [strs_len]; exact hk)
 exact ⟨ad, e, hb, by simpa [strs] using hc⟩
set_option maxRecDepth 100000 in
set_option maxHeartbeats 1600000 in
theorem indexS_any (W : World) (A : Option Addr) (n c : Nat) (cs : List ByteArray) (hn : n = cs.length) (hr : Row W W.heap.size A (strs cs)) (hl : cs.length ≤ 100000) :
  Calls Tryz.prog 124 #[.slice A n c, .func (.func 99) #[] #[]] W fun e w' => ∃ r : Int, e = .returned (.int .i64 r) ∧ (0 ≤ r ↔ ∃ q ∈ cs, q.size ≠ 8) ∧ w' = W := by
 subst hn
 have HR := Lib.hid hr
 clear hr
 go_enter Tryz.func124, Tryz.ntmps124
 go_wp2_with fail
 go_loopw [5, 8] (fun _ i wr => ∃ k : Nat, k ≤ cs.length ∧ i = .int .i64 k ∧ (∀ j (_ : j < k) (h : j < cs.length), (cs[j]).size = 8) ∧ wr = W) (fun _ i _ => cs.length - (intOf i).toNat)
 case atStart => exact ⟨0, by omega, rfl, by intro j h q; omega, rfl⟩
 case round =>
  obtain ⟨k, hk, rfl, hpre, hw⟩ := hrel
  have hw := hw.symm
  subst hw
  have HP := Lib.hid hpre
  clear hpre
  by_cases hlt : k < cs.length
  ·obtain ⟨ad, hA, hblk, hc1⟩ := strs_get HR.out k hlt
   subst hA
   by_cases h8 : (cs[k]).size = 8
   ·have HQ := Lib.hid (show ∀ j (_ : j < k + 1) (h : j < cs.length), (cs[j]).size = 8 from fun j hj h => by
     rcases Nat.lt_or_ge j k with q | q
     ·exact HP.out j q h
     ·obtain rfl : j = k := by omega
      exact h8)
    have hcall := nocell_any W (cs[k]) false (by simp [h8])
    clear h8
    generalize cs[k] = q at *
    go_wp2_with (go_at_call 99; refine hcall.mono ?_; rintro e w' ⟨rfl, rfl⟩)
    clear hcall hc1
    go_roundw
    case rel => exact ⟨k + 1, by omega, by go_num, HQ.out, trivial⟩
    case measure => simp [intOf]; omega
   ·have HQ := Lib.hid (show ∃ q ∈ cs, q.size ≠ 8 from ⟨_, List.getElem_mem hlt, h8⟩)
    have hcall := nocell_any W (cs[k]) true (by simp [h8])
    clear h8
    generalize cs[k] = q at *
    go_wp2_with (go_at_call 99; refine hcall.mono ?_; rintro e w' ⟨rfl, rfl⟩)
    go_ret
    exact ⟨_, rfl, ⟨fun _ => HQ.out, fun _ => by omega⟩, rfl⟩
  ·have HQ := Lib.hid (show ¬ ∃ q ∈ cs, q.size ≠ 8 from fun ⟨q, hq, h⟩ => by
    obtain ⟨i, hi, rfl⟩ := List.mem_iff_getElem.1 hq
    exact h (HP.out i (by omega) hi))
   go_wp2_with fail
   go_ret
   exact ⟨_, rfl, ⟨fun h => by omega, fun h => absurd h HQ.out⟩, rfl⟩
set_option maxRecDepth 100000 in
set_option maxHeartbeats 1600000 in
theorem containsS_any (W : World) (A : Option Addr) (n c : Nat) (cs : List ByteArray) (r : Bool) (hn : n = cs.length) (hr : Row W W.heap.size A (strs cs)) (hl : cs.length ≤ 100000) (hq : r = true ↔ ∃ q ∈ cs, q.size ≠ 8) :
  Calls Tryz.prog 98 #[.slice A n c, .func (.func 99) #[] #[]] W fun e w' => e = .returned (.bool r) ∧ w' = W := by
 subst hn
 have hcall := indexS_any W A cs.length c cs rfl hr hl
 have HQ := Lib.hid hq
 clear hq hr
 go_enter Tryz.func98, Tryz.ntmps98
 go_wp2_with (go_at_call 124; (with_reducible refine hcall.mono ?_); rintro e w' ⟨z, rfl, hz, hw⟩; subst hw; have HZ := Lib.hid hz; clear hz)
 go_ret
 exact ⟨ret_bool (by rw [Bool.eq_iff_iff, HQ.out, ← HZ.out]; simp), rfl⟩
end Go.Proofs.YtpidnkfcccboaaaGreat.FreePages
