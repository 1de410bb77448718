/- TupleRef, TupleRef2. -/
import Derived.Test.YtilcnhdfdgmekaaGreatKFactsPlain
import Derived.Test.YtilcnhdfdgmekaaGreatKFrames
import Derived.Test.YtilcnhdfdgmekaaGreatKInvT
import Derived.Test.YtilcnhdfdgmekaaGreatKKeyRead
import Derived.Test.YtilcnhdfdgmekaaGreatKTupleRefN
import Derived.Deep.CutBlock
namespace Go.Proofs.YtilcnhdfdgmekaaGreat.TupleRef
open Go.RowKit Base KeyPlain TuplePlain

/-! users and tuples -/
def UsF (u : Us) : Prop := u.k.size ≤ 4611686018427387904 ∧ u.i.size ≤ 4611686018427387904 ∧ u.r.size ≤ 4611686018427387904
def TpF (t : Tp) : Prop := t.k.size ≤ 4611686018427387904 ∧ t.i.size ≤ 4611686018427387904 ∧ t.r.size ≤ 4611686018427387904 ∧ UsF t.u
set_option maxHeartbeats 3200000 in
theorem refUser_any (u : Us) (w : World) (hu : UsF u) :
    Calls Tryz.prog 52 #[.agg (uc u)] w fun e w' => e = .returned (.bool u.ok) ∧ Below w.heap.size w w' := by
  obtain ⟨k, i, r⟩ := u
  obtain ⟨h1, h2, h3⟩ := hu
  have c1 := fun w => refName_any k w h1
  have c2 := fun w => refID_any i w h2
  have c3 := fun w => refName_any r w h3
  have e0 := empty_eq r
  have HOK := Lib.hid (show (Us.mk k i r).ok = (nameL (bl k) && idL (bl i) && (decide (r.size = 0) || nameL (bl r))) from rfl)
  unfold uc
  generalize nameL (bl k) = b1 at *
  generalize idL (bl i) = b2 at *
  generalize nameL (bl r) = b3 at *
  have hb := al w (.cells #[.string k, .string i, .string r] 30)
  go_enter Tryz.func52, Tryz.ntmps52
  cases b1 with
  | false =>
    go_wp2_with fail
    (with_reducible refine (c1 _).mono ?_)
    rintro e w' ⟨rfl, rfl⟩
    go_wp2_with fail
    go_ret
    exact ⟨ret_bool (by rw [HOK.out]; rfl), hb⟩
  | true =>
    cases b2 with
    | false =>
      go_wp2_with fail
      (with_reducible refine (c1 _).mono ?_)
      rintro e w' ⟨rfl, rfl⟩
      go_wp2_with fail
      (with_reducible refine (c2 _).mono ?_)
      rintro e w' ⟨rfl, rfl⟩
      go_wp2_with fail
      go_ret
      exact ⟨ret_bool (by rw [HOK.out]; rfl), hb⟩
    | true =>
      by_cases hz : r.size = 0
      · rw [decide_eq_true hz] at e0
        have HO := Lib.hid (show (Us.mk k i r).ok = true from by rw [HOK.out, decide_eq_true hz]; rfl)
        clear hz
        go_wp2_with fail
        (with_reducible refine (c1 _).mono ?_)
        rintro e w' ⟨rfl, rfl⟩
        go_wp2_with fail
        (with_reducible refine (c2 _).mono ?_)
        rintro e w' ⟨rfl, rfl⟩
        go_wp2_with fail
        go_ret
        exact ⟨ret_bool HO.out.symm, hb⟩
      · rw [decide_eq_false hz] at e0
        have HO := Lib.hid (show (Us.mk k i r).ok = b3 from by rw [HOK.out, decide_eq_false hz]; rfl)
        clear hz
        go_wp2_with fail
        (with_reducible refine (c1 _).mono ?_)
        rintro e w' ⟨rfl, rfl⟩
        go_wp2_with fail
        (with_reducible refine (c2 _).mono ?_)
        rintro e w' ⟨rfl, rfl⟩
        go_wp2_with fail
        (with_reducible refine (c3 _).mono ?_)
        rintro e w' ⟨rfl, rfl⟩
        cases b3 with
        | false =>
          go_wp2_with fail
          go_ret
          exact ⟨ret_bool HO.out.symm, hb⟩
        | true =>
          go_wp2_with fail
          go_ret
          exact ⟨ret_bool HO.out.symm, hb⟩
set_option maxHeartbeats 3200000 in
theorem refCheck_any (t : Tp) (w : World) (ht : TpF t) :
    Calls Tryz.prog 33 #[.agg (tc t)] w fun e w' => e = .returned (.bool t.ok) ∧ Below w.heap.size w w' := by
  obtain ⟨k, i, r, u⟩ := t
  obtain ⟨h1, h2, h3, h4⟩ := ht
  have c1 := fun w => refName_any k w h1
  have c2 := fun w => refID_any i w h2
  have c3 := fun w => refName_any r w h3
  have c4 := fun w => refUser_any u w h4
  have HOK := Lib.hid (show (Tp.mk k i r u).ok = (nameL (bl k) && idL (bl i) && nameL (bl r) && u.ok) from rfl)
  unfold uc at c4
  unfold tc
  generalize nameL (bl k) = b1 at *
  generalize idL (bl i) = b2 at *
  generalize nameL (bl r) = b3 at *
  generalize u.ok = b4 at *
  have hb := al w (.cells #[.string k, .string i, .string r, .string u.k, .string u.i, .string u.r] 32)
  go_enter Tryz.func33, Tryz.ntmps33
  cases b1 with
  | false =>
    go_wp2_with fail
    (with_reducible refine (c1 _).mono ?_)
    rintro e w' ⟨rfl, rfl⟩
    go_wp2_with fail
    go_ret
    exact ⟨ret_bool (by rw [HOK.out]; rfl), hb⟩
  | true =>
    cases b2 with
    | false =>
      go_wp2_with fail
      (with_reducible refine (c1 _).mono ?_)
      rintro e w' ⟨rfl, rfl⟩
      go_wp2_with fail
      (with_reducible refine (c2 _).mono ?_)
      rintro e w' ⟨rfl, rfl⟩
      go_wp2_with fail
      go_ret
      exact ⟨ret_bool (by rw [HOK.out]; rfl), hb⟩
    | true =>
      cases b3 with
      | false =>
        go_wp2_with fail
        (with_reducible refine (c1 _).mono ?_)
        rintro e w' ⟨rfl, rfl⟩
        go_wp2_with fail
        (with_reducible refine (c2 _).mono ?_)
        rintro e w' ⟨rfl, rfl⟩
        go_wp2_with fail
        (with_reducible refine (c3 _).mono ?_)
        rintro e w' ⟨rfl, rfl⟩
        go_wp2_with fail
        go_ret
        exact ⟨ret_bool (by rw [HOK.out]; rfl), hb⟩
      | true =>
        go_wp2_with fail
        (with_reducible refine (c1 _).mono ?_)
        rintro e w' ⟨rfl, rfl⟩
        go_wp2_with fail
        (with_reducible refine (c2 _).mono ?_)
        rintro e w' ⟨rfl, rfl⟩
        go_wp2_with fail
        (with_reducible refine (c3 _).mono ?_)
        rintro e w' ⟨rfl, rfl⟩
        go_wp2_with fail
        (with_reducible refine (c4 _).mono ?_)
        rintro e w' ⟨rfl, hb2⟩
        have HB := Lib.hid (hb.trans (hb2.mono hb.size))
        clear hb hb2
        go_wp2_with fail
        go_ret
        exact ⟨ret_bool (by rw [HOK.out]; rfl), HB.out⟩
theorem str_cat (a b : ByteArray) : (a ++ b).data.toList = a.data.toList ++ b.data.toList := by simp
theorem six_at {w : World} {g : Nat} {t : TypeId} {a b c d e f : Value} (q : w.heap[g]? = some (.cells #[a, b, c, d, e, f] t (0, 0))) : w.cell? ⟨g, 0, none⟩ = some a ∧ w.cell? ⟨g, 1, none⟩ = some b ∧ w.cell? ⟨g, 2, none⟩ = some c ∧ w.cell? ⟨g, 3, none⟩ = some d ∧ w.cell? ⟨g, 4, none⟩ = some e ∧ w.cell? ⟨g, 5, none⟩ = some f := by
  refine ⟨?_, ?_, ?_, ?_, ?_, ?_⟩ <;> (simp only [World.cell?, q]; rfl)
end Go.Proofs.YtilcnhdfdgmekaaGreat.TupleRef
namespace Go.Proofs.YtilcnhdfdgmekaaGreat.TupleRef
open Go.RowKit Base KeyPlain TuplePlain

def PartsPost (w : World) (t : Tp) (e : Ending) (w' : World) : Prop := ∃ A c, e = .returned (.slice A 6 c) ∧ Row w' w'.heap.size A (t.parts.map .string) ∧ Below w.heap.size w w'
set_option maxHeartbeats 3200000 in
theorem refParts_any (t : Tp) (w : World) :
    Calls Tryz.prog 31 #[.agg (tc t)] w (PartsPost w t) := by
  obtain ⟨k, i, r, ⟨uk, ui, ur⟩⟩ := t
  have hb := (al w (.cells #[.string k, .string i, .string r, .string uk, .string ui, .string ur] 32))
  have hb2 := Below.step hb (al _ (.cells #[.string k, .string i, .string r, .string uk, .string ui, .string ur] 9))
  have hr := (row_of_block (heap_alloc_new (w.alloc (.cells #[.string k, .string i, .string r, .string uk, .string ui, .string ur] 32)) (.cells #[.string k, .string i, .string r, .string uk, .string ui, .string ur] 9))).more (B' := ((w.alloc (.cells #[.string k, .string i, .string r, .string uk, .string ui, .string ur] 32)).alloc (.cells #[.string k, .string i, .string r, .string uk, .string ui, .string ur] 9)).heap.size) (by simp)
  have HF := Lib.hid (show PartsPost w ⟨k, i, r, ⟨uk, ui, ur⟩⟩ (.returned (.slice (some ⟨(w.alloc (.cells #[.string k, .string i, .string r, .string uk, .string ui, .string ur] 32)).heap.size, 0, none⟩) 6 6)) ((w.alloc (.cells #[.string k, .string i, .string r, .string uk, .string ui, .string ur] 32)).alloc (.cells #[.string k, .string i, .string r, .string uk, .string ui, .string ur] 9)) from ⟨_, _, rfl, hr, hb2⟩)
  clear hb hb2 hr
  unfold tc
  go_enter Tryz.func31, Tryz.ntmps31
  go_wp2_with fail
  go_ret
  exact (by simpa using HF.out)
set_option maxRecDepth 100000 in
theorem wpList_append_run {P : Program} {w : World} {ops : Array Oper} {rest : List Oper} {o : Oper} {a : Act} {Q : Exit → Act → World → Prop} (hgd : o.guard = none) (s x : Operand) (t u : TypeId)
    (hop : o.op = Op.call { callee := Callee.builtin Builtin.append, args := #[s, x], argTypes := #[t, u] }) {vs vx v : Value} {w' : World} (hs : a.eval s = vs) (hx : a.eval x = vx)
    (hrun : (Builtin.append_ #[t, u] o.type #[vs, vx]).run P w = .ok v w') (h : wpList P ops Q rest (a.put o.dst v) w') : wpList P ops Q (o :: rest) a w := by
  refine wpList_plain hgd fun K hK => ?_
  unfold Oper.wp
  simp [execOp, hop, resolve, invoke, builtin, hs, hx, hrun, Result.andThen]
  exact hK _ _ h
theorem own_one (w : World) (t : TypeId) (v : Value) : Own (w.alloc (.cells #[v] t)) w.heap.size t (some ⟨w.heap.size, 0, none⟩) 1 [v] :=
  ⟨by simp, .inr ⟨w.heap.size, 1, #[v], rfl, Nat.le_refl _, heap_alloc_new w _, by simp, by simp [maxLen], by simp, by simp⟩⟩
/-! the document's Back, Less, and the law's few -/
/-- a slice of a tuple's parts -/
def PtV (t : Tp) (v : Value) (w : World) : Prop := ∃ A c, v = .slice A 6 c ∧ Row w w.heap.size A (t.parts.map .string)
theorem PtV.below {t : Tp} {v : Value} {w w' : World} (h : PtV t v w) (hb : Below w.heap.size w w') : PtV t v w' := by
  obtain ⟨A, c, e, r⟩ := h
  exact ⟨A, c, e, r.belowSize hb⟩
theorem parts_few {t : Tp} (h : TpF t) : ∀ p ∈ t.parts, p.size ≤ maxLen := by
  obtain ⟨h1, h2, h3, h4, h5, h6⟩ := h
  intro p hp
  unfold maxLen
  simp only [Tp.parts, List.mem_cons, List.not_mem_nil, or_false] at hp
  rcases hp with rfl | rfl | rfl | rfl | rfl | rfl <;> omega
set_option maxRecDepth 100000 in
set_option maxHeartbeats 6400000 in
theorem refLess_any (t s : Tp) (w : World) (ht : TpF t) (hs : TpF s) :
    Calls Tryz.prog 34 #[.agg (tc t), .agg (tc s)] w fun e w' => e = .returned (.bool (less (lst t.parts) (lst s.parts))) ∧ Below w.heap.size w w' := by
  have HFA := Lib.hid (parts_few ht)
  have HFB := Lib.hid (parts_few hs)
  have HPA := Lib.hid (fun w => refParts_any t w)
  have HPB := Lib.hid (fun w => refParts_any s w)
  clear ht hs
  obtain ⟨w1, hw1⟩ : ∃ v, v = w.alloc (.cells (tc t) 32) := ⟨_, rfl⟩
  obtain ⟨w2, hw2⟩ : ∃ v, v = w1.alloc (.cells (tc s) 32) := ⟨_, rfl⟩
  obtain ⟨b, hbe⟩ : ∃ v, v = w.heap.size := ⟨_, rfl⟩
  have b1 : Below w.heap.size w w1 := by rw [hw1]; exact al _ _
  have b12 : Below w1.heap.size w1 w2 := by rw [hw2]; exact al _ _
  have hs1 : w1.heap.size = b + 1 := by rw [hw1, hbe]; simp
  have a1 : w1.heap[b]? = some (.cells (tc t) 32 (0, 0)) := by rw [hw1, hbe]; exact heap_alloc_new w _
  have a2 : w2.heap[b]? = some (.cells (tc t) 32 (0, 0)) := (b12.block b (by omega)).trans a1
  have c2 : w2.heap[b + 1]? = some (.cells (tc s) 32 (0, 0)) := by rw [hw2, ← hs1]; exact heap_alloc_new w1 _
  have hl2 : b + 1 < w2.heap.size := by have : w2.heap.size = w1.heap.size + 1 := (by rw [hw2]; simp); omega
  have HB1 := Lib.hid (Below.step b1 b12)
  have HC := Lib.hid (fun (w' : World) (hw' : Below w2.heap.size w2 w') => six_at ((hw'.block b (by omega)).trans a2))
  have HD := Lib.hid (fun (w' : World) (hw' : Below w2.heap.size w2 w') => six_at ((hw'.block (b + 1) hl2).trans c2))
  have HW1 := Lib.hid hw1
  have HW2 := Lib.hid hw2
  have HBE := Lib.hid hbe
  have HS1 := Lib.hid hs1
  clear hw1 hw2 hbe b1 b12 hs1 a1 a2 c2 hl2
  unfold tc at HW1 HW2 HPA HPB ⊢
  go_enter Tryz.func34, Tryz.ntmps34
  go_upto_region 1 with fail
  try rw [← HW1.out]
  try rw [← HW2.out]
  try rw [← HBE.out]
  try rw [HS1.out]
  clear HW1 HW2
  have hJ0 : Below w2.heap.size w2 (World.drew w2) := (Below.refl _ _).drew
  refine wp_region_any (by kernel_rfl) ?_
  change wpAny _ _ _ _ _ _ _ (World.drew _)
  refine Inv.inv_any (fun (i : Nat) (v : Value) (w : World) => match i with | 0 => v = .agg #[.string t.k, .string t.i, .string t.r, .string t.u.k, .string t.u.i, .string t.u.r] | 1 => PtV t v w | 2 => v = .agg #[.string s.k, .string s.i, .string s.r, .string s.u.k, .string s.u.i, .string s.u.r] | 3 => PtV s v w | 4 => v = .bool (less (lst t.parts) (lst s.parts)) | _ => True) (fun w' : World => Below w2.heap.size w2 w') _ 5 10 rfl rfl rfl (by kernel_rfl) (by kernel_rfl) hJ0 ?_ ?_ ?_ ?_
  · intro j v w w' h hb
    match j, h with
    | 0, h => exact h
    | 1, h => exact PtV.below h hb
    | 2, h => exact h
    | 3, h => exact PtV.below h hb
    | 4, h => exact h
    | 5, _ => exact trivial
    | (_ + 6), _ => exact trivial
  · skip
    refine Inv.from_cons _ _ _ _ rfl (fun _ a w hJ hF F K hK => ?_) ?_
    · have hz : a.tmps.size = 10 := hF.size
      have e2 : a.tmps[2]? = some (.pointer (some ⟨b, 0, none⟩)) := Inv2.some_slot (by rw [hz]; exact Nat.le_of_ble_eq_true rfl) (hF.slot 2 (by kernel_rfl))
      clear F hF hz
      obtain ⟨d0, d1, d2, d3, d4, d5⟩ := HC.out _ hJ
      go_simp
      exact hK (.agg #[.string t.k, .string t.i, .string t.r, .string t.u.k, .string t.u.i, .string t.u.r]) _ hJ (Below.refl _ _) rfl
    refine Inv.from_cons _ _ _ _ rfl (fun _ a w hJ hF F K hK => ?_) ?_
    · have hz : a.tmps.size = 10 := hF.size
      have e5 : a.tmps[5]? = some (.agg #[.string t.k, .string t.i, .string t.r, .string t.u.k, .string t.u.i, .string t.u.r]) := Inv2.some_slot (by rw [hz]; exact Nat.le_of_ble_eq_true rfl) (F 0 (by kernel_rfl) 5 rfl)
      clear F hF hz
      have hh := HPA.out w
      go_simp
      (with_reducible refine hh.mono ?_)
      rintro e' w' hq
      unfold PartsPost at hq
      obtain ⟨A9, c9, rfl, hr, hb⟩ := hq
      go_simp
      exact hK _ _ (Below.step hJ hb) hb ⟨A9, c9, rfl, hr⟩
    refine Inv.from_cons _ _ _ _ rfl (fun _ a w hJ hF F K hK => ?_) ?_
    · have hz : a.tmps.size = 10 := hF.size
      have e3 : a.tmps[3]? = some (.pointer (some ⟨b + 1, 0, none⟩)) := Inv2.some_slot (by rw [hz]; exact Nat.le_of_ble_eq_true rfl) (hF.slot 3 (by kernel_rfl))
      clear F hF hz
      obtain ⟨d0, d1, d2, d3, d4, d5⟩ := HD.out _ hJ
      go_simp
      exact hK (.agg #[.string s.k, .string s.i, .string s.r, .string s.u.k, .string s.u.i, .string s.u.r]) _ hJ (Below.refl _ _) rfl
    refine Inv.from_cons _ _ _ _ rfl (fun _ a w hJ hF F K hK => ?_) ?_
    · have hz : a.tmps.size = 10 := hF.size
      obtain ⟨x6, e6, f1⟩ : ∃ xv, a.tmps[6]? = some xv ∧ PtV t xv w := ⟨_, Inv2.some_slot (by rw [hz]; exact Nat.le_of_ble_eq_true rfl) rfl, F 1 (by kernel_rfl) 6 rfl⟩
      have e7 : a.tmps[7]? = some (.agg #[.string s.k, .string s.i, .string s.r, .string s.u.k, .string s.u.i, .string s.u.r]) := Inv2.some_slot (by rw [hz]; exact Nat.le_of_ble_eq_true rfl) (F 2 (by kernel_rfl) 7 rfl)
      clear F hF hz
      have hh := HPB.out w
      go_simp
      (with_reducible refine hh.mono ?_)
      rintro e' w' hq
      unfold PartsPost at hq
      obtain ⟨A9, c9, rfl, hr, hb⟩ := hq
      go_simp
      exact hK _ _ (Below.step hJ hb) hb ⟨A9, c9, rfl, hr⟩
    refine Inv.from_cons _ _ _ _ rfl (fun _ a w hJ hF F K hK => ?_) ?_
    · have hz : a.tmps.size = 10 := hF.size
      obtain ⟨x6, e6, f1⟩ : ∃ xv, a.tmps[6]? = some xv ∧ PtV t xv w := ⟨_, Inv2.some_slot (by rw [hz]; exact Nat.le_of_ble_eq_true rfl) rfl, F 1 (by kernel_rfl) 6 rfl⟩
      obtain ⟨x8, e8, f3⟩ : ∃ xv, a.tmps[8]? = some xv ∧ PtV s xv w := ⟨_, Inv2.some_slot (by rw [hz]; exact Nat.le_of_ble_eq_true rfl) rfl, F 3 (by kernel_rfl) 8 rfl⟩
      clear F hF hz
      obtain ⟨A8, c8, hx8, hr8⟩ := f1
      obtain ⟨A9, c9, hx9, hr9⟩ := f3
      subst hx8 hx9
      have hh := KeyRead.refLess_q A8 A9 c8 c9 t.parts s.parts w hr8 hr9 (by simp [Tp.parts, maxLen]) (by simp [Tp.parts, maxLen]) HFA.out HFB.out
      simp only [Tp.parts, List.length_cons, List.length_nil, Nat.zero_add, Nat.reduceAdd] at hh
      go_simp
      (with_reducible refine hh.mono ?_)
      rintro e' w' ⟨rfl, nq, rfl⟩
      go_simp
      exact hK _ _ (Below.step hJ (Base.below_drewN _ _ _)) (Base.below_drewN _ _ _) rfl
    refine Inv.from_skip _ _ _ _ rfl ?_
    exact Inv.from_end _ _ _ _ (by decide +kernel)
  · intro o ho a w hJ hF F K hK
    injection (show some _ = some o from ho) with ho
    subst ho
    obtain ⟨f, hf⟩ : ∃ f : Nat → Value, ∀ i, a.tmps.getD i undef = f i := ⟨_, fun _ => rfl⟩
    have g2 : f 2 = (.pointer (some ⟨b, 0, none⟩)) := (hf 2).symm.trans (hF.slot 2 (by kernel_rfl))
    have g3 : f 3 = (.pointer (some ⟨b + 1, 0, none⟩)) := (hf 3).symm.trans (hF.slot 3 (by kernel_rfl))
    have g5 : f 5 = (.agg #[.string t.k, .string t.i, .string t.r, .string t.u.k, .string t.u.i, .string t.u.r]) := (hf 5).symm.trans (F 0 (by decide) 5 rfl)
    obtain ⟨x6, g6⟩ : ∃ x, f 6 = x := ⟨_, rfl⟩
    have f1 : PtV t x6 w := by rw [← g6, ← hf 6]; exact F 1 (by decide) 6 rfl
    have g7 : f 7 = (.agg #[.string s.k, .string s.i, .string s.r, .string s.u.k, .string s.u.i, .string s.u.r]) := (hf 7).symm.trans (F 2 (by decide) 7 rfl)
    obtain ⟨x8, g8⟩ : ∃ x, f 8 = x := ⟨_, rfl⟩
    have f3 : PtV s x8 w := by rw [← g8, ← hf 8]; exact F 3 (by decide) 8 rfl
    have g9 : f 9 = (.bool (less (lst t.parts) (lst s.parts))) := (hf 9).symm.trans (F 4 (by decide) 9 rfl)
    have ha := Frames.frame (show a.tmps.size = 10 from hF.size) hF.defers hf (l := [f 0, f 1, f 2, f 3, f 4, f 5, f 6, f 7, f 8, f 9]) rfl
    simp only [g2, g3, g5, g6, g7, g8, g9] at ha
    clear F hF hf g2 g3 g5 g6 g7 g8 g9
    subst ha
    have HB := Lib.hid (HB1.out.trans (hJ.mono HB1.out.size))
    clear hJ
    go_simp
    refine hK _ _ ?_
    clear hK
    go_wp2_with fail
    go_ret
    exact ⟨rfl, HB.out⟩
  · intro hq; exact absurd hq (by decide +kernel)
end Go.Proofs.YtilcnhdfdgmekaaGreat.TupleRef
