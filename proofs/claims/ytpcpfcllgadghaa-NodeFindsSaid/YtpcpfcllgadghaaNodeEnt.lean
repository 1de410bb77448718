/- The contracts of entries and kidTexts, and of the document's four. -/
import Derived.Test.YtpcpfcllgadghaaNodeBox
import Derived.Test.YtpcpfcllgadghaaHeld
namespace Go.Proofs.Ytpcpfcllgadghaa.NodeEnt
open Go.RowKit Base NodePlain NodeRead NodeSlice NodeCheck NodeBox

theorem step_append_run {P : Program} {w : World} {ops : Array Oper} {o : Oper} {a : Act} {K : Act → World → Prop} {Q : Exit → Act → World → Prop} {E : Prop} (hg : o.guard = none) (s x : Operand) (t u : TypeId)
    (hop : o.op = Op.call { callee := Callee.builtin Builtin.append, args := #[s, x], argTypes := #[t, u] }) {vs vx v : Value} {w' : World} (hs : a.eval s = vs) (hx : a.eval x = vx)
    (hrun : (Builtin.append_ #[t, u] o.type #[vs, vx]).run P w = .ok v w') (hK : K (a.put o.dst v) w') : if Region.wanted o (yielded ops a.tmps) = true then Oper.wp P o a w K Q else E := by
  have hw : Region.wanted o (yielded ops a.tmps) = true := by simp [Region.wanted, hg]
  rw [if_pos hw]
  unfold Oper.wp
  simp [execOp, hop, resolve, invoke, builtin, hs, hx, hrun, Result.andThen]
  exact hK
theorem step_append_d {P : Program} {w : World} {ops : Array Oper} {o : Oper} {a : Act} {K : Act → World → Prop} {Q : Exit → Act → World → Prop} {E : Prop} {d : Tmp} (hg : o.guard = none) (hd : o.dst = some d) (s x : Operand) (t u : TypeId)
    (hop : o.op = Op.call { callee := Callee.builtin Builtin.append, args := #[s, x], argTypes := #[t, u] }) {vs vx v : Value} {w' : World} (hs : a.eval s = vs) (hx : a.eval x = vx)
    (hrun : (Builtin.append_ #[t, u] o.type #[vs, vx]).run P w = .ok v w') (hK : K (a.put (some d) v) w') : if Region.wanted o (yielded ops a.tmps) = true then Oper.wp P o a w K Q else E :=
  step_append_run hg s x t u hop hs hx hrun (by rw [hd]; exact hK)
theorem conv_row {w : World} {B : Nat} {A : Option Addr} {l : List UInt8} (hr : Row w B A (bv l)) (n c : Nat) (hn : n = l.length) : (convert 65 9 (.slice A n c)).run Try.prog w = .ok (.string ⟨l.toArray⟩) w := by
  subst hn
  exact conv_bytes (P := Try.prog) Try.underlying65 Try.underlying5 Try.underlying9 c hr
/-- a cell: how long the key is, it, and what stands behind it -/
def ent (k b : ByteArray) : ByteArray := ((⟨[UInt8.ofNat k.size].toArray⟩ : ByteArray) ++ k) ++ b
def ents (ks bs : List ByteArray) : List ByteArray := List.zipWith ent ks bs
theorem ents_take {ks bs : List ByteArray} (k : Nat) (h1 : k < ks.length) (h2 : k < bs.length) : ents (ks.take (k + 1)) (bs.take (k + 1)) = ents (ks.take k) (bs.take k) ++ [ent ks[k] bs[k]] := by
  unfold ents
  rw [List.take_succ_eq_append_getElem h1, List.take_succ_eq_append_getElem h2, List.zipWith_append (by simp; omega)]
  rfl
/-- a number as four bytes -/
def four (n : Nat) : ByteArray := ⟨[UInt8.ofNat (n / 16777216), UInt8.ofNat (n / 65536), UInt8.ofNat (n / 256), UInt8.ofNat n].toArray⟩
theorem row_one (w : World) (v : Value) (t : TypeId) : Row (w.alloc (.cells #[v] t)) (w.alloc (.cells #[v] t)).heap.size (some ⟨w.heap.size, 0, none⟩) [v] := (row_of_block (heap_alloc_new w (.cells #[v] t))).more (by simp)
theorem row_byte (w : World) (n : Nat) (h : n ≤ 255) : Row (w.alloc (.cells #[.int .u8 (IntKind.u8.wrap (n : Int))] 5)) (w.alloc (.cells #[.int .u8 (IntKind.u8.wrap (n : Int))] 5)).heap.size (some ⟨w.heap.size, 0, none⟩) (bv [UInt8.ofNat n]) := by
  have e : IntKind.u8.wrap (n : Int) = ((UInt8.ofNat n).toNat : Int) := by rw [IntWalk.u8_in _ (by omega), UInt8.toNat_ofNat']; omega
  rw [e]
  exact row_one w _ _
set_option maxRecDepth 100000 in
set_option maxHeartbeats 6400000 in
theorem entries_any (w : World) (A0 B0 : Option Addr) (n m c d : Nat) (ks bs : List ByteArray) (hn : n = ks.length) (hm : m = bs.length) (hr : Row w w.heap.size A0 (strs ks)) (hq : Row w w.heap.size B0 (strs bs)) (hl : ks.length ≤ 1000) (hb : bs.length = ks.length) (hz : ∀ q ∈ ks, q.size ≤ 255) (hzb : ∀ q ∈ bs, q.size ≤ 1000) :
    Calls Try.prog 34 #[.slice A0 n c, .slice B0 m d] w fun e w' => ∃ A' m' c', e = .returned (.slice A' m' c') ∧ SlO w.heap.size (strs (ents ks bs)) (.slice A' m' c') w' ∧ Below w.heap.size w w' := by
  subst hn hm
  have HBL := Lib.hid hb
  clear hb
  go_enter Try.func34, Try.ntmps34
  go_wp2_with fail
  go_loopw [5, 10] (fun v i wr => ∃ (k : Nat) (A : Option Addr) (c' : Nat), k ≤ ks.length ∧ i = .int .i64 k ∧ v = .slice A k c' ∧ Own wr w.heap.size 9 A c' (strs (ents (ks.take k) (bs.take k))) ∧ Below w.heap.size w wr) (fun _ i _ => ks.length - (intOf i).toNat)
  case atStart => exact ⟨0, none, 0, by omega, rfl, rfl, Own.nil _ _ _, Below.refl _ _⟩
  case round =>
    obtain ⟨k, A, c', hk, rfl, rfl, hown, hb⟩ := hrel
    have hbs := hb.size
    by_cases hlt : k < ks.length
    · have hlb : k < bs.length := by have := HBL.out; omega
      obtain ⟨ad, rfl, hb1, hc1⟩ := strs_get (hr.belowSize hb) k hlt
      obtain ⟨bd, hBe, hb2, hc2⟩ := strs_get hq k hlb
      subst hBe
      have HC := Lib.hid (fun (w' : World) (hw : Below w.heap.size w w') => (hw.cell (p := bd.add k) (by rw [blk_add]; exact hb2)).trans hc2)
      have HT := Lib.hid (show strs (ents (ks.take (k + 1)) (bs.take (k + 1))) = strs (ents (ks.take k) (bs.take k)) ++ [.string (ent ks[k] bs[k])] by rw [ents_take k hlt hlb]; simp [strs])
      have HLN := Lib.hid (show (strs (ents (ks.take k) (bs.take k))).length = k by simp [strs, ents]; omega)
      have hq := hz _ (List.getElem_mem hlt)
      have hq2 := hzb _ (List.getElem_mem hlb)
      clear hc2 hbs
      generalize ks[k] = q at *
      generalize bs[k] = b at *
      have hcc1 : (9223372036854775807 < 1 + q.size) = False := by simp; omega
      have hcc2 : (9223372036854775807 < 1 + q.size + b.size) = False := by simp; omega
      go_wp2_with fail
      refine wp_region_any (by kernel_rfl) ?_
      change wpAny _ _ _ _ _ _ _ (World.drew _)
      obtain ⟨u0, hu0⟩ : ∃ v, v = World.drew wr := ⟨_, rfl⟩
      rw [← hu0]
      have hB0 : Below w.heap.size w u0 := by rw [hu0]; exact hb.drew
      have hown : Own u0 w.heap.size 9 A c' (strs (ents (ks.take k) (bs.take k))) := by rw [hu0]; exact hown
      clear hu0 hb
      refine Held.any_of_G (S := (fun w' : World => w'.cell? (bd.add k) = some (.string b))) (z := 15) _ _ _ _ ?_
      refine Held.G_take (i := 0) (d := 15) (v := ?_) [0, 14, 15] rfl rfl (by kernel_rfl) (by kernel_rfl) (by kernel_rfl) (by kernel_rfl) (fun _ _ _ h => h) (Or.inl ⟨by rfl, ?_⟩) (HC.out _ hB0) ?_
      rotate_left 1
      · intro w hSw; clear hSw; go_simp <;> with_reducible rfl
      simp only [Act.put, List.setIfInBounds_toArray, List.set_cons_zero, List.set_cons_succ]
      refine Held.G_take (i := 1) (d := 16) (v := ?_) [1, 2, 3, 4, 5, 7, 12, 13, 14, 15] rfl rfl (by kernel_rfl) (by kernel_rfl) (by kernel_rfl) (by kernel_rfl) (fun _ _ _ h => h) (Or.inl ⟨by rfl, ?_⟩) (HC.out _ hB0) ?_
      rotate_left 1
      · intro w hSw; clear hSw; go_simp <;> with_reducible rfl
      simp only [Act.put, List.setIfInBounds_toArray, List.set_cons_zero, List.set_cons_succ]
      refine Held.G_take (i := 2) (d := 17) (v := ?_) [2, 3, 4, 5, 7, 12, 13, 14, 15] rfl rfl (by kernel_rfl) (by kernel_rfl) (by kernel_rfl) (by kernel_rfl) (fun _ _ _ h => h) (Or.inl ⟨by rfl, ?_⟩) (HC.out _ hB0) ?_
      rotate_left 1
      · intro w hSw; clear hSw; go_simp <;> with_reducible rfl
      simp only [Act.put, List.setIfInBounds_toArray, List.set_cons_zero, List.set_cons_succ]
      refine Held.G_take (i := 3) (d := 18) (v := ?_) [3, 4, 5, 7, 12, 13, 14, 15] rfl rfl (by kernel_rfl) (by kernel_rfl) (by kernel_rfl) (by kernel_rfl) (fun _ _ _ h => h) (Or.inl ⟨by rfl, ?_⟩) (HC.out _ hB0) ?_
      rotate_left 1
      · intro w hSw; clear hSw; go_simp <;> with_reducible rfl
      simp only [Act.put, List.setIfInBounds_toArray, List.set_cons_zero, List.set_cons_succ]
      refine Held.G_take (i := 6) (d := 21) (v := ?_) [6, 7, 12, 13, 14, 15] rfl rfl (by kernel_rfl) (by kernel_rfl) (by kernel_rfl) (by kernel_rfl) (fun _ _ _ h => h) (Or.inl ⟨by rfl, ?_⟩) (HC.out _ hB0) ?_
      rotate_left 1
      · intro w hSw; clear hSw; go_simp <;> with_reducible rfl
      simp only [Act.put, List.setIfInBounds_toArray, List.set_cons_zero, List.set_cons_succ]
      refine Held.G_take (i := 8) (d := 23) (v := ?_) [8, 10, 11, 12, 13, 14, 15] rfl rfl (by kernel_rfl) (by kernel_rfl) (by kernel_rfl) (by kernel_rfl) (fun _ _ _ h => h) (Or.inl ⟨by rfl, ?_⟩) (HC.out _ hB0) ?_
      rotate_left 1
      · intro w hSw; clear hSw; go_simp <;> with_reducible rfl
      simp only [Act.put, List.setIfInBounds_toArray, List.set_cons_zero, List.set_cons_succ]
      refine Held.G_take (i := 9) (d := 24) (v := ?_) [9, 10, 11, 12, 13, 14, 15] rfl rfl (by kernel_rfl) (by kernel_rfl) (by kernel_rfl) (by kernel_rfl) (fun _ _ _ h => h) (Or.inl ⟨by rfl, ?_⟩) (HC.out _ hB0) ?_
      rotate_left 1
      · intro w hSw; clear hSw; go_simp <;> with_reducible rfl
      simp only [Act.put, List.setIfInBounds_toArray, List.set_cons_zero, List.set_cons_succ]
      refine Held.G_take (i := 10) (d := 25) (v := ?_) [10, 11, 12, 13, 14, 15] rfl rfl (by kernel_rfl) (by kernel_rfl) (by kernel_rfl) (by kernel_rfl) (fun _ _ _ h => h) (Or.inl ⟨by rfl, ?_⟩) (HC.out _ hB0) ?_
      rotate_left 1
      · intro w hSw; clear hSw; go_simp <;> with_reducible rfl
      simp only [Act.put, List.setIfInBounds_toArray, List.set_cons_zero, List.set_cons_succ]
      refine Held.G_take (i := 11) (d := 26) (v := ?_) [11, 12, 13, 14, 15] rfl rfl (by kernel_rfl) (by kernel_rfl) (by kernel_rfl) (by kernel_rfl) (fun _ _ _ h => h) (Or.inl ⟨by rfl, ?_⟩) (HC.out _ hB0) ?_
      rotate_left 1
      · intro w hSw; have h1 := hSw; clear hSw; (try dsimp only at h1); go_simp <;> with_reducible rfl
      simp only [Act.put, List.setIfInBounds_toArray, List.set_cons_zero, List.set_cons_succ]
      refine Held.G_ready (rs := [4]) (by decide +kernel) (by simp) ?_
      refine Held.G_cons rfl (fun KK hK => ?_) Held.G_nil
      go_simp
      refine hK _ _ ?_
      clear hK KK
      obtain ⟨u1, hw⟩ : ∃ v, v = u0.alloc (.cells #[.int .u8 (IntKind.u8.wrap (q.size : Int))] 5) := ⟨_, rfl⟩
      rw [← hw]
      have hst0 : Below u0.heap.size u0 u1 := by rw [hw]; exact al _ _
      have hB1 := bstep hB0 hB0.size hst0
      have hown := hown.later hst0
      have hy : Row u1 u1.heap.size (some ⟨u0.heap.size, 0, none⟩) (bv [UInt8.ofNat q.size]) := by rw [hw]; exact row_byte _ _ hq
      clear hw
      refine ⟨(HC.out _ hB1), ?_⟩
      refine Held.G_ready (rs := [5]) (by decide +kernel) (by simp) ?_
      refine Held.G_cons rfl (fun KK hK => ?_) Held.G_nil
      have hcv := conv_row hy 1 1 rfl
      go_simp
      refine hK _ _ ?_
      clear hK KK hcv hy
      refine ⟨(HC.out _ hB1), ?_⟩
      refine Held.G_take (i := 7) (d := 22) (v := ?_) [7, 12, 13, 14, 15] rfl rfl (by kernel_rfl) (by kernel_rfl) (by kernel_rfl) (by kernel_rfl) (fun _ _ _ h => h) (Or.inl ⟨by rfl, ?_⟩) (HC.out _ hB1) ?_
      rotate_left 1
      · intro w hSw; clear hSw; go_simp <;> with_reducible rfl
      simp only [Act.put, List.setIfInBounds_toArray, List.set_cons_zero, List.set_cons_succ]
      refine Held.G_take (i := 12) (d := 27) (v := ?_) [12, 13, 14, 15] rfl rfl (by kernel_rfl) (by kernel_rfl) (by kernel_rfl) (by kernel_rfl) (fun _ _ _ h => h) (Or.inl ⟨by rfl, ?_⟩) (HC.out _ hB1) ?_
      rotate_left 1
      · intro w hSw; clear hSw; go_simp <;> with_reducible rfl
      simp only [Act.put, List.setIfInBounds_toArray, List.set_cons_zero, List.set_cons_succ]
      refine Held.G_ready (rs := [13]) (by decide +kernel) (by simp) ?_
      refine Held.G_cons rfl (fun KK hK => ?_) Held.G_nil
      go_simp
      refine hK _ _ ?_
      clear hK KK
      obtain ⟨u2, hw⟩ : ∃ v, v = u1.alloc (.cells #[.string ((⟨#[UInt8.ofNat q.size]⟩ : ByteArray) ++ q ++ b)] 9) := ⟨_, rfl⟩
      rw [← hw]
      have hst1 : Below u1.heap.size u1 u2 := by rw [hw]; exact al _ _
      have hB2 := bstep hB1 hB1.size hst1
      have hown := hown.later hst1
      have hr1 : Row u2 u2.heap.size (some ⟨u1.heap.size, 0, none⟩) [.string (ent q b)] := by rw [hw]; exact row_one _ _ _
      clear hw
      refine ⟨(HC.out _ hB2), ?_⟩
      refine Held.G_ready (rs := [14]) (by decide +kernel) (by simp) ?_
      refine Held.G_cons rfl (fun KK hK => ?_) Held.G_nil
      have hbs := hB2.size
      obtain ⟨A2, c2, u3, hrun, hown2, hg⟩ := run_append_row (P := Try.prog) 22 el_s (c2 := 1) hown hr1 (by simp [Value.oneCell']) (by simp [strs, ents, maxLen]; omega) (by simp [strs, ents]; omega) hbs
      have hB3 : Below w.heap.size w u3 := hown.below hB2 hg (Nat.le_refl _) hbs
      rw [HLN.out] at hrun
      refine step_append_d (d := 29) rfl rfl (.tmp 15) (.tmp 28) 22 22 rfl (vs := .slice A k c') (vx := .slice (some ⟨u1.heap.size, 0, none⟩) 1 1) (by simp [Act.eval]) (by simp [Act.eval]) hrun ?_
      refine hK _ _ ?_
      clear hK KK hrun
      simp only [Act.put, List.setIfInBounds_toArray, List.set_cons_zero, List.set_cons_succ]
      refine ⟨(HC.out _ hB3), ?_⟩
      refine Held.G_ready (rs := [15]) (by decide +kernel) (by simp) ?_
      refine Held.G_last rfl (fun KK hK => ?_) Held.G_nil
      go_simp
      refine hK _ _ ?_
      clear hK KK
      refine Held.G_done (by kernel_rfl) ?_ _
      go_wp2_with fail
      go_roundw
      case rel => exact ⟨k + 1, A2, c2, by omega, by go_num, rfl, by rw [HT.out]; exact hown2, hB3⟩
      case measure => simp [intOf]; omega
    · obtain rfl : k = ks.length := by omega
      rw [List.take_of_length_le (Nat.le_refl _), List.take_of_length_le (by rw [HBL.out]; exact Nat.le_refl _)] at hown
      have HL := Lib.hid (show ks.length = (strs (ents ks bs)).length by have := HBL.out; simp [strs, ents]; omega)
      go_wp2_with fail
      go_ret
      exact ⟨_, _, _, rfl, own_slo hown _ HL.out, hb⟩
theorem four_conv (w : World) (n : Nat) (h : n ≤ 4294967295) : (convert 65 9 (.slice (some ⟨w.heap.size, 0, none⟩) 4 4)).run Try.prog (w.alloc (.cells #[.int .u8 ((n : Int) / 16777216), .int .u8 ((n : Int) / 65536 % 256), .int .u8 ((n : Int) / 256 % 256), .int .u8 ((n : Int) % 256)] 5)) = .ok (.string (four n)) (w.alloc (.cells #[.int .u8 ((n : Int) / 16777216), .int .u8 ((n : Int) / 65536 % 256), .int .u8 ((n : Int) / 256 % 256), .int .u8 ((n : Int) % 256)] 5)) := by
  have e0 : (n : Int) / 16777216 = ((UInt8.ofNat (n / 16777216)).toNat : Int) := by rw [UInt8.toNat_ofNat']; omega
  have e1 : (n : Int) / 65536 % 256 = ((UInt8.ofNat (n / 65536)).toNat : Int) := by rw [UInt8.toNat_ofNat']; omega
  have e2 : (n : Int) / 256 % 256 = ((UInt8.ofNat (n / 256)).toNat : Int) := by rw [UInt8.toNat_ofNat']; omega
  have e3 : (n : Int) % 256 = ((UInt8.ofNat n).toNat : Int) := by rw [UInt8.toNat_ofNat']; omega
  rw [e0, e1, e2, e3]
  exact conv_row (l := [UInt8.ofNat (n / 16777216), UInt8.ofNat (n / 65536), UInt8.ofNat (n / 256), UInt8.ofNat n]) (row_of_block (heap_alloc_new w _)) 4 4 rfl
set_option maxRecDepth 100000 in
set_option maxHeartbeats 3200000 in
theorem rfour_any (w : World) (n : Nat) (h : n ≤ 4294967295) :
    Calls Try.prog 45 #[.int .i64 (n : Int)] w fun e w' => e = .returned (.string (four n)) ∧ Below w.heap.size w w' := by
  have hcv := four_conv w n h
  have HB := Lib.hid (al w (.cells #[.int .u8 ((n : Int) / 16777216), .int .u8 ((n : Int) / 65536 % 256), .int .u8 ((n : Int) / 256 % 256), .int .u8 ((n : Int) % 256)] 5))
  go_enter Try.func45, Try.ntmps45
  go_wp2_with fail
  go_ret
  exact ⟨rfl, HB.out⟩
set_option maxRecDepth 100000 in
set_option maxHeartbeats 3200000 in
theorem kidTexts_any (w : World) (A0 : Option Addr) (n c : Nat) (ks : List Int) (hn : n = ks.length) (hr : Row w w.heap.size A0 (ints ks)) (hl : ks.length ≤ 1000) (hz : ∀ q ∈ ks, 1 ≤ q ∧ q ≤ 4294967295) :
    Calls Try.prog 35 #[.slice A0 n c] w fun e w' => ∃ A' m' c', e = .returned (.slice A' m' c') ∧ SlO w.heap.size (strs (ks.map fun k => four k.toNat)) (.slice A' m' c') w' ∧ Below w.heap.size w w' := by
  subst hn
  go_enter Try.func35, Try.ntmps35
  go_wp2_with fail
  go_loopw [3, 8] (fun v i wr => ∃ (k : Nat) (A : Option Addr) (c' : Nat), k ≤ ks.length ∧ i = .int .i64 k ∧ v = .slice A k c' ∧ Own wr w.heap.size 9 A c' (strs ((ks.take k).map fun k => four k.toNat)) ∧ Below w.heap.size w wr) (fun _ i _ => ks.length - (intOf i).toNat)
  case atStart => exact ⟨0, none, 0, by omega, rfl, rfl, Own.nil _ _ _, Below.refl _ _⟩
  case round =>
    obtain ⟨k, A, c', hk, rfl, rfl, hown, hb⟩ := hrel
    have hbs := hb.size
    by_cases hlt : k < ks.length
    · obtain ⟨ad, rfl, hb1, hc1⟩ := ints_get (hr.belowSize hb) k hlt
      have hq := hz _ (List.getElem_mem hlt)
      have HT := Lib.hid (show strs ((ks.take (k + 1)).map fun k => four k.toNat) = strs ((ks.take k).map fun k => four k.toNat) ++ [.string (four ks[k].toNat)] by rw [List.take_succ_eq_append_getElem hlt, strs, List.map_append, List.map_append]; rfl)
      have HLN := Lib.hid (show k = (strs ((ks.take k).map fun k => four k.toNat)).length by simp [strs]; omega)
      generalize ks[k] = q at *
      obtain ⟨q, rfl⟩ := Int.eq_ofNat_of_zero_le (show 0 ≤ q by omega)
      have hcv := four_conv wr q (by omega)
      have hb2 := bstep hb hbs (al wr (.cells #[.int .u8 ((q : Int) / 16777216), .int .u8 ((q : Int) / 65536 % 256), .int .u8 ((q : Int) / 256 % 256), .int .u8 ((q : Int) % 256)] 5))
      have HR := Lib.hid (fun (o : Obj) => show Row ((wr.alloc o).alloc (.cells #[.string (four q)] 9)) ((wr.alloc o).alloc (.cells #[.string (four q)] 9)).heap.size (some ⟨wr.heap.size + 1, 0, none⟩) [.string (four q)] by simpa using row_one (wr.alloc o) (.string (four q)) 9)
      rw [Int.toNat_natCast] at HT
      have hq2 := hq.2
      go_wp2_with (at_builtin; refine wpList_append_row rfl (.tmp 12) (.tmp 26) 22 rfl el_s (A := A) (c := c') (n := k) (m := 1) (xs := strs ((ks.take k).map fun k => four k.toNat)) (news := [.string (four q)]) rfl HLN.out ((hown.alloc _).alloc _) rfl rfl (HR.out _) (by simp [Value.oneCell']) (by rw [← HLN.out]; simp [maxLen]; omega) (by rw [← HLN.out]; simp; omega) (by simp; omega) ?_; intro A3 c3 w2 hown' hg; have hb3 : Below w.heap.size w w2 := ((hown.alloc _).alloc _).below (bstep hb2 (by simp; omega) (al _ _)) hg (Nat.le_refl _) (by simp; omega); clear hg)
      go_roundw
      case rel => exact ⟨k + 1, A3, c3, by omega, by go_num, rfl, by rw [HT.out]; exact hown', hb3⟩
      case measure => simp [intOf]; omega
    · obtain rfl : k = ks.length := by omega
      rw [List.take_of_length_le (Nat.le_refl _)] at hown
      have HL := Lib.hid (show ks.length = (strs (ks.map fun k => four k.toNat)).length by simp [strs])
      go_wp2_with fail
      go_ret
      exact ⟨_, _, _, rfl, own_slo hown _ HL.out, hb⟩
end Go.Proofs.Ytpcpfcllgadghaa.NodeEnt
