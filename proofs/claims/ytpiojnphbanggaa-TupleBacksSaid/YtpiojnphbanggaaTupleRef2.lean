/- The document's answers for tuples, further: parts and keys. -/
import Derived.Test.YtpiojnphbanggaaTupleRef
namespace Go.Proofs.Ytpiojnphbanggaa.TupleRef
open Go.RowKit Base KeyPlain KeyRef KeyGet TuplePlain

def PartsPost (w : World) (t : Tp) (e : Ending) (w' : World) : Prop := ∃ A c, e = .returned (.slice A 6 c) ∧ Row w' w'.heap.size A (t.parts.map .string) ∧ Below w.heap.size w w'
set_option maxHeartbeats 3200000 in
theorem refParts_any (t : Tp) (w : World) :
    Calls Try.prog 35 #[.agg (tc t)] w (PartsPost w t) := by
  obtain ⟨k, i, r, ⟨uk, ui, ur⟩⟩ := t
  have hb := (al w (.cells #[.string k, .string i, .string r, .string uk, .string ui, .string ur] 25))
  have hb2 := Below.step hb (al _ (.cells #[.string k, .string i, .string r, .string uk, .string ui, .string ur] 9))
  have hr := (row_of_block (heap_alloc_new (w.alloc (.cells #[.string k, .string i, .string r, .string uk, .string ui, .string ur] 25)) (.cells #[.string k, .string i, .string r, .string uk, .string ui, .string ur] 9))).more (B' := ((w.alloc (.cells #[.string k, .string i, .string r, .string uk, .string ui, .string ur] 25)).alloc (.cells #[.string k, .string i, .string r, .string uk, .string ui, .string ur] 9)).heap.size) (by simp)
  have HF := Lib.hid (show PartsPost w ⟨k, i, r, ⟨uk, ui, ur⟩⟩ (.returned (.slice (some ⟨(w.alloc (.cells #[.string k, .string i, .string r, .string uk, .string ui, .string ur] 25)).heap.size, 0, none⟩) 6 6)) ((w.alloc (.cells #[.string k, .string i, .string r, .string uk, .string ui, .string ur] 25)).alloc (.cells #[.string k, .string i, .string r, .string uk, .string ui, .string ur] 9)) from ⟨_, _, rfl, hr, hb2⟩)
  clear hb hb2 hr
  unfold tc
  go_enter Try.func35, Try.ntmps35
  go_wp2_with fail
  go_ret
  exact (by simpa using HF.out)
set_option maxRecDepth 100000 in
theorem wpList_append_run {P : Program} {w : World} {ops : Array Oper} {rest : List Oper} {o : Oper} {a : Act} {Q : Exit → Act → World → Prop} (hgd : o.guard = none) (s x : Operand) (t u : TypeId)
    (hop : o.op = Op.call { callee := Callee.builtin Builtin.append, args := #[s, x], argTypes := #[t, u] }) {vs vx v : Value} {w' : World} (hs : a.eval s = vs) (hx : a.eval x = vx)
    (hrun : (Builtin.append_ #[t, u] o.type #[vs, vx]).run P w = .ok v w') (h : wpList P ops Q rest (a.put o.dst v) w') : wpList P ops Q (o :: rest) a w := by
  refine wpList_plain hgd fun K hK => ?_
  unfold Oper.wp
  simp [execOp, hop, resolve, invoke, builtin, hs, hx, hrun, Result.andThen]
  exact hK _ _ h
theorem own_one (w : World) (t : TypeId) (v : Value) : Own (w.alloc (.cells #[v] t)) w.heap.size t (some ⟨w.heap.size, 0, none⟩) 1 [v] :=
  ⟨by simp, .inr ⟨w.heap.size, 1, #[v], rfl, Nat.le_refl _, heap_alloc_new w _, by simp, by simp [maxLen], by simp, by simp⟩⟩
set_option maxHeartbeats 3200000 in
theorem refKey_any (t : Tp) (w : World) (ht : t.ok = true) :
    Calls Try.prog 29 #[.agg (tc t)] w fun e w' => e = .returned (.string ⟨t.key.toArray⟩) ∧ Below w.heap.size w w' := by
  have hk := t.key_len ht
  have HK := Lib.hid (show t.key.length ≤ 95 from hk.1)
  clear hk ht
  obtain ⟨w1, hw1⟩ : ∃ v, v = w.alloc (.cells (tc t) 25) := ⟨_, rfl⟩
  obtain ⟨b, hbe⟩ : ∃ v, v = w.heap.size := ⟨_, rfl⟩
  have b1 : Below w.heap.size w w1 := by rw [hw1]; exact al _ _
  have b12 := al w1 (.cells #[.string sf] 9)
  have a1 : w1.heap[b]? = some (.cells (tc t) 25 (0, 0)) := by rw [hw1, hbe]; exact heap_alloc_new w _
  have hl1 : b < w1.heap.size := by rw [hw1, hbe]; simp
  have a2 := (b12.block _ hl1).trans a1
  have ho := own_one w1 9 (.string sf)
  have hp := refParts_any t (w1.alloc (.cells #[.string sf] 9))
  have HW1 := Lib.hid hw1
  have HBE := Lib.hid hbe
  have HB := Lib.hid (Below.step b1 b12)
  have HO := Lib.hid ho
  have HS := Lib.hid b12.size
  have HS0 := Lib.hid b1.size
  clear hw1 b1 b12 a1 hl1 ho hbe
  unfold tc at a2 hp HW1 ⊢
  obtain ⟨d0, d1, d2, d3, d4, d5⟩ := six_at a2
  clear a2
  go_enter Try.func29, Try.ntmps29
  go_upto_region 1 with fail
  try rw [← HW1.out]
  try rw [← HBE.out]
  clear HW1
  go_wp2_with fail
  (with_reducible refine hp.mono ?_)
  clear hp d0 d1 d2 d3 d4 d5
  rintro e w3 hq
  unfold PartsPost at hq
  obtain ⟨A, c, rfl, hr, b3⟩ := hq
  have ho3 := HO.out.later b3
  obtain ⟨A', c', w4, hrun, ho4, hg⟩ := run_append_row (P := Try.prog) 45 el_strs (c2 := c) ho3 hr (strs_one _) (by simp [Tp.parts, maxLen]) (by simp [Tp.parts]) (Nat.le_trans (by have := HS.out; exact this) b3.size)
  have hb4 := ho3.below (HB.out.trans (b3.mono HB.out.size)) hg HS0.out (Nat.le_trans HS.out b3.size)
  have e7 : [Value.string sf] ++ t.parts.map .string = (sf :: t.parts).map .string := rfl
  rw [e7] at ho4
  have hput := refPut_any A' c' (sf :: t.parts) w4 ho4.row (by simp [Tp.parts, maxLen]) (show t.key.length ≤ 300000 from Nat.le_trans HK.out (by omega))
  have HB4 := Lib.hid hb4
  simp only [List.length_map, Tp.parts, List.length_cons, List.length_nil, Nat.zero_add, Nat.reduceAdd] at hrun hput
  clear ho3 hg ho4 hr b3 hb4 e7
  go_wp2_with (at_builtin; refine wpList_append_run rfl (.tmp 3) (.tmp 5) 45 45 rfl rfl rfl hrun ?_)
  (with_reducible refine hput.mono ?_)
  rintro e w5 ⟨rfl, rfl⟩
  go_wp2_with fail
  go_ret
  exact ⟨rfl, HB4.out⟩
/-! the document's Back, Less, and the law's few -/
set_option maxRecDepth 100000 in
set_option maxHeartbeats 6400000 in
theorem refBack_any (t : Tp) (w : World) (ht : t.ok = true) :
    Calls Try.prog 30 #[.agg (tc t)] w fun e w' => e = .returned (.string ⟨t.back.toArray⟩) ∧ Below w.heap.size w w' := by
  have hk := t.key_len ht
  have hkl : t.back.length ≤ 300000 := by omega
  obtain ⟨w1, hw1⟩ : ∃ v, v = w.alloc (.cells (tc t) 25) := ⟨_, rfl⟩
  obtain ⟨b, hbe⟩ : ∃ v, v = w.heap.size := ⟨_, rfl⟩
  have b1 : Below w.heap.size w w1 := by rw [hw1]; exact al _ _
  have a1 : w1.heap[b]? = some (.cells (tc t) 25 (0, 0)) := by rw [hw1, hbe]; exact heap_alloc_new w _
  obtain ⟨w2, hw2⟩ : ∃ v, v = w1.alloc (.cells #[.string sr, .string t.u.k, .string t.u.i, .string t.u.r, .string t.k, .string t.i, .string t.r] 9) := ⟨_, rfl⟩
  have b12 : Below w1.heap.size w1 w2 := by rw [hw2]; exact al _ _
  have hr : Row w2 w2.heap.size (some ⟨w1.heap.size, 0, none⟩) ((sr :: t.backs).map .string) := by rw [hw2]; exact (row_of_block (heap_alloc_new w1 _)).more (by simp)
  have hput := refPut_any (some ⟨w1.heap.size, 0, none⟩) 7 (sr :: t.backs) w2 hr (by simp [Tp.backs, maxLen]) hkl
  have HW1 := Lib.hid hw1
  have HW2 := Lib.hid hw2
  have HBE := Lib.hid hbe
  have HB := Lib.hid (Below.step b1 b12)
  simp only [Tp.backs, List.length_cons, List.length_nil, Nat.zero_add, Nat.reduceAdd] at hput
  clear hw1 hw2 b1 b12 hbe hk hkl hr
  unfold tc at a1 HW1 ⊢
  obtain ⟨d0, d1, d2, d3, d4, d5⟩ := six_at a1
  clear a1
  go_enter Try.func30, Try.ntmps30
  go_upto_region 1 with fail
  try rw [← HW1.out]
  try rw [← HBE.out]
  clear HW1
  go_wp2_with fail
  try rw [← HW2.out]
  (with_reducible refine hput.mono ?_)
  rintro e w5 ⟨rfl, rfl⟩
  go_wp2_with fail
  go_ret
  exact ⟨rfl, HB.out⟩
/-- a slice of a tuple's parts -/
def PtV (t : Tp) (v : Value) (w : World) : Prop := ∃ A c, v = .slice A 6 c ∧ Row w w.heap.size A (t.parts.map .string)
theorem PtV.below {t : Tp} {v : Value} {w w' : World} (h : PtV t v w) (hb : Below w.heap.size w w') : PtV t v w' := by
  obtain ⟨A, c, e, r⟩ := h
  exact ⟨A, c, e, r.belowSize hb⟩
theorem parts_few {t : Tp} (h : TpF t) : ∀ p ∈ t.parts, p.size ≤ maxLen := by
  obtain ⟨h1, h2, h3, h4, h5, h6⟩ := h
  intro p hp
  unfold maxLen
  simp only [Tp.parts, List.mem_cons, List.not_mem_nil, or_false] at hp
  rcases hp with rfl | rfl | rfl | rfl | rfl | rfl <;> omega
set_option maxRecDepth 100000 in
set_option maxHeartbeats 6400000 in
theorem refLess_any (t s : Tp) (w : World) (ht : TpF t) (hs : TpF s) :
    Calls Try.prog 32 #[.agg (tc t), .agg (tc s)] w fun e w' => e = .returned (.bool (less (lst t.parts) (lst s.parts))) ∧ Below w.heap.size w w' := by
  have HFA := Lib.hid (parts_few ht)
  have HFB := Lib.hid (parts_few hs)
  have HPA := Lib.hid (fun w => refParts_any t w)
  have HPB := Lib.hid (fun w => refParts_any s w)
  clear ht hs
  obtain ⟨w1, hw1⟩ : ∃ v, v = w.alloc (.cells (tc t) 25) := ⟨_, rfl⟩
  obtain ⟨w2, hw2⟩ : ∃ v, v = w1.alloc (.cells (tc s) 25) := ⟨_, rfl⟩
  obtain ⟨b, hbe⟩ : ∃ v, v = w.heap.size := ⟨_, rfl⟩
  have b1 : Below w.heap.size w w1 := by rw [hw1]; exact al _ _
  have b12 : Below w1.heap.size w1 w2 := by rw [hw2]; exact al _ _
  have hs1 : w1.heap.size = b + 1 := by rw [hw1, hbe]; simp
  have a1 : w1.heap[b]? = some (.cells (tc t) 25 (0, 0)) := by rw [hw1, hbe]; exact heap_alloc_new w _
  have a2 : w2.heap[b]? = some (.cells (tc t) 25 (0, 0)) := (b12.block b (by omega)).trans a1
  have c2 : w2.heap[b + 1]? = some (.cells (tc s) 25 (0, 0)) := by rw [hw2, ← hs1]; exact heap_alloc_new w1 _
  have hl2 : b + 1 < w2.heap.size := by have : w2.heap.size = w1.heap.size + 1 := (by rw [hw2]; simp); omega
  have HB1 := Lib.hid (Below.step b1 b12)
  have HC := Lib.hid (fun (w' : World) (hw' : Below w2.heap.size w2 w') => six_at ((hw'.block b (by omega)).trans a2))
  have HD := Lib.hid (fun (w' : World) (hw' : Below w2.heap.size w2 w') => six_at ((hw'.block (b + 1) hl2).trans c2))
  have HW1 := Lib.hid hw1
  have HW2 := Lib.hid hw2
  have HBE := Lib.hid hbe
  have HS1 := Lib.hid hs1
  clear hw1 hw2 hbe b1 b12 hs1 a1 a2 c2 hl2
  unfold tc at HW1 HW2 HPA HPB ⊢
  go_enter Try.func32, Try.ntmps32
  go_upto_region 1 with fail
  try rw [← HW1.out]
  try rw [← HW2.out]
  try rw [← HBE.out]
  try rw [HS1.out]
  clear HW1 HW2
  have hJ0 : Below w2.heap.size w2 (World.drew w2) := (Below.refl _ _).drew
  refine wp_region_any (by kernel_rfl) ?_
  change wpAny _ _ _ _ _ _ _ (World.drew _)
  refine Inv.inv_any (fun (i : Nat) (v : Value) (w : World) => match i with | 0 => v = .agg #[.string t.k, .string t.i, .string t.r, .string t.u.k, .string t.u.i, .string t.u.r] | 1 => PtV t v w | 2 => v = .agg #[.string s.k, .string s.i, .string s.r, .string s.u.k, .string s.u.i, .string s.u.r] | 3 => PtV s v w | 4 => v = .bool (less (lst t.parts) (lst s.parts)) | _ => True) (fun w' : World => Below w2.heap.size w2 w') _ 5 10 rfl rfl rfl (by kernel_rfl) (by kernel_rfl) hJ0 ?_ ?_ ?_ ?_
  · intro j v w w' h hb
    match j, h with
    | 0, h => exact h
    | 1, h => exact PtV.below h hb
    | 2, h => exact h
    | 3, h => exact PtV.below h hb
    | 4, h => exact h
    | 5, _ => exact trivial
    | (_ + 6), _ => exact trivial
  · skip
    refine Inv.from_cons _ _ _ _ rfl (fun _ a w hJ hF F K hK => ?_) ?_
    · have hz : a.tmps.size = 10 := hF.size
      have e2 : a.tmps[2]? = some (.pointer (some ⟨b, 0, none⟩)) := Inv2.some_slot (by rw [hz]; exact Nat.le_of_ble_eq_true rfl) (hF.slot 2 (by kernel_rfl))
      clear F hF hz
      obtain ⟨d0, d1, d2, d3, d4, d5⟩ := HC.out _ hJ
      go_simp
      exact hK (.agg #[.string t.k, .string t.i, .string t.r, .string t.u.k, .string t.u.i, .string t.u.r]) _ hJ (Below.refl _ _) rfl
    refine Inv.from_cons _ _ _ _ rfl (fun _ a w hJ hF F K hK => ?_) ?_
    · have hz : a.tmps.size = 10 := hF.size
      have e5 : a.tmps[5]? = some (.agg #[.string t.k, .string t.i, .string t.r, .string t.u.k, .string t.u.i, .string t.u.r]) := Inv2.some_slot (by rw [hz]; exact Nat.le_of_ble_eq_true rfl) (F 0 (by kernel_rfl) 5 rfl)
      clear F hF hz
      have hh := HPA.out w
      go_simp
      (with_reducible refine hh.mono ?_)
      rintro e' w' hq
      unfold PartsPost at hq
      obtain ⟨A9, c9, rfl, hr, hb⟩ := hq
      go_simp
      exact hK _ _ (Below.step hJ hb) hb ⟨A9, c9, rfl, hr⟩
    refine Inv.from_cons _ _ _ _ rfl (fun _ a w hJ hF F K hK => ?_) ?_
    · have hz : a.tmps.size = 10 := hF.size
      have e3 : a.tmps[3]? = some (.pointer (some ⟨b + 1, 0, none⟩)) := Inv2.some_slot (by rw [hz]; exact Nat.le_of_ble_eq_true rfl) (hF.slot 3 (by kernel_rfl))
      clear F hF hz
      obtain ⟨d0, d1, d2, d3, d4, d5⟩ := HD.out _ hJ
      go_simp
      exact hK (.agg #[.string s.k, .string s.i, .string s.r, .string s.u.k, .string s.u.i, .string s.u.r]) _ hJ (Below.refl _ _) rfl
    refine Inv.from_cons _ _ _ _ rfl (fun _ a w hJ hF F K hK => ?_) ?_
    · have hz : a.tmps.size = 10 := hF.size
      obtain ⟨x6, e6, f1⟩ : ∃ xv, a.tmps[6]? = some xv ∧ PtV t xv w := ⟨_, Inv2.some_slot (by rw [hz]; exact Nat.le_of_ble_eq_true rfl) rfl, F 1 (by kernel_rfl) 6 rfl⟩
      have e7 : a.tmps[7]? = some (.agg #[.string s.k, .string s.i, .string s.r, .string s.u.k, .string s.u.i, .string s.u.r]) := Inv2.some_slot (by rw [hz]; exact Nat.le_of_ble_eq_true rfl) (F 2 (by kernel_rfl) 7 rfl)
      clear F hF hz
      have hh := HPB.out w
      go_simp
      (with_reducible refine hh.mono ?_)
      rintro e' w' hq
      unfold PartsPost at hq
      obtain ⟨A9, c9, rfl, hr, hb⟩ := hq
      go_simp
      exact hK _ _ (Below.step hJ hb) hb ⟨A9, c9, rfl, hr⟩
    refine Inv.from_cons _ _ _ _ rfl (fun _ a w hJ hF F K hK => ?_) ?_
    · have hz : a.tmps.size = 10 := hF.size
      obtain ⟨x6, e6, f1⟩ : ∃ xv, a.tmps[6]? = some xv ∧ PtV t xv w := ⟨_, Inv2.some_slot (by rw [hz]; exact Nat.le_of_ble_eq_true rfl) rfl, F 1 (by kernel_rfl) 6 rfl⟩
      obtain ⟨x8, e8, f3⟩ : ∃ xv, a.tmps[8]? = some xv ∧ PtV s xv w := ⟨_, Inv2.some_slot (by rw [hz]; exact Nat.le_of_ble_eq_true rfl) rfl, F 3 (by kernel_rfl) 8 rfl⟩
      clear F hF hz
      obtain ⟨A8, c8, hx8, hr8⟩ := f1
      obtain ⟨A9, c9, hx9, hr9⟩ := f3
      subst hx8 hx9
      have hh := KeyRead.refLess_q A8 A9 c8 c9 t.parts s.parts w hr8 hr9 (by simp [Tp.parts, maxLen]) (by simp [Tp.parts, maxLen]) HFA.out HFB.out
      simp only [Tp.parts, List.length_cons, List.length_nil, Nat.zero_add, Nat.reduceAdd] at hh
      go_simp
      (with_reducible refine hh.mono ?_)
      rintro e' w' ⟨rfl, nq, rfl⟩
      go_simp
      exact hK _ _ (Below.step hJ (Base.below_drewN _ _ _)) (Base.below_drewN _ _ _) rfl
    refine Inv.from_skip _ _ _ _ rfl ?_
    exact Inv.from_end _ _ _ _ (by decide +kernel)
  · intro o ho a w hJ hF F K hK
    injection (show some _ = some o from ho) with ho
    subst ho
    obtain ⟨f, hf⟩ : ∃ f : Nat → Value, ∀ i, a.tmps.getD i undef = f i := ⟨_, fun _ => rfl⟩
    have g2 : f 2 = (.pointer (some ⟨b, 0, none⟩)) := (hf 2).symm.trans (hF.slot 2 (by kernel_rfl))
    have g3 : f 3 = (.pointer (some ⟨b + 1, 0, none⟩)) := (hf 3).symm.trans (hF.slot 3 (by kernel_rfl))
    have g5 : f 5 = (.agg #[.string t.k, .string t.i, .string t.r, .string t.u.k, .string t.u.i, .string t.u.r]) := (hf 5).symm.trans (F 0 (by decide) 5 rfl)
    obtain ⟨x6, g6⟩ : ∃ x, f 6 = x := ⟨_, rfl⟩
    have f1 : PtV t x6 w := by rw [← g6, ← hf 6]; exact F 1 (by decide) 6 rfl
    have g7 : f 7 = (.agg #[.string s.k, .string s.i, .string s.r, .string s.u.k, .string s.u.i, .string s.u.r]) := (hf 7).symm.trans (F 2 (by decide) 7 rfl)
    obtain ⟨x8, g8⟩ : ∃ x, f 8 = x := ⟨_, rfl⟩
    have f3 : PtV s x8 w := by rw [← g8, ← hf 8]; exact F 3 (by decide) 8 rfl
    have g9 : f 9 = (.bool (less (lst t.parts) (lst s.parts))) := (hf 9).symm.trans (F 4 (by decide) 9 rfl)
    have ha := Frames.frame (show a.tmps.size = 10 from hF.size) hF.defers hf (l := [f 0, f 1, f 2, f 3, f 4, f 5, f 6, f 7, f 8, f 9]) rfl
    simp only [g2, g3, g5, g6, g7, g8, g9] at ha
    clear F hF hf g2 g3 g5 g6 g7 g8 g9
    subst ha
    have HB := Lib.hid (HB1.out.trans (hJ.mono HB1.out.size))
    clear hJ
    go_simp
    refine hK _ _ ?_
    clear hK
    go_wp2_with fail
    go_ret
    exact ⟨rfl, HB.out⟩
  · intro hq; exact absurd hq (by decide +kernel)
end Go.Proofs.Ytpiojnphbanggaa.TupleRef
