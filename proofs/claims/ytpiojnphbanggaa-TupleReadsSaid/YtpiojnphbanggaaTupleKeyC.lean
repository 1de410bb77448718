/- Tuples' keys: the code's keyOf, parts, user, Key, Back, Less, OfKey. -/
import Derived.Test.YtpiojnphbanggaaTupleCut
import Derived.Test.YtpiojnphbanggaaTupleEq
import Derived.Test.YtpiojnphbanggaaKeyGet
namespace Go.Proofs.Ytpiojnphbanggaa.TupleKeyC
open Go.RowKit Base KeyPlain KeyGet TuplePlain TupleRef TupleSpec TupleName TupleCut

abbrev seven (f : ByteArray) (a c : Us) : List ByteArray := [f, a.k, a.i, a.r, c.k, c.i, c.r]
set_option maxHeartbeats 3200000 in
theorem keyOf_any (f : ByteArray) (a c : Us) (w : World) (hl : (kput (lst (seven f a c))).length ≤ 300000) :
    Calls Try.prog 47 #[.string f, .agg (uc a), .agg (uc c)] w fun e w' => e = .returned (.string ⟨(kput (lst (seven f a c))).toArray⟩) ∧ Below w.heap.size w w' := by
  obtain ⟨w1, hw1⟩ : ∃ v, v = w.alloc (.cells (uc a) 23) := ⟨_, rfl⟩
  obtain ⟨w2, hw2⟩ : ∃ v, v = w1.alloc (.cells (uc c) 23) := ⟨_, rfl⟩
  obtain ⟨w3, hw3⟩ : ∃ v, v = w2.alloc (.cells #[.string f, .string a.k, .string a.i, .string a.r, .string c.k, .string c.i, .string c.r] 9) := ⟨_, rfl⟩
  obtain ⟨b, hbe⟩ : ∃ v, v = w.heap.size := ⟨_, rfl⟩
  have b1 : Below w.heap.size w w1 := by rw [hw1]; exact al _ _
  have b12 : Below w1.heap.size w1 w2 := by rw [hw2]; exact al _ _
  have b23 : Below w2.heap.size w2 w3 := by rw [hw3]; exact al _ _
  have s1 : w1.heap.size = b + 1 := by rw [hw1, hbe]; simp
  have s2 : w2.heap.size = b + 2 := by rw [hw2]; simp [s1]
  have a1 : w1.heap[b]? = some (.cells (uc a) 23 (0, 0)) := by rw [hw1, hbe]; exact heap_alloc_new w _
  have a2 := (b12.block b (by omega)).trans a1
  have c2 : w2.heap[b + 1]? = some (.cells (uc c) 23 (0, 0)) := by rw [hw2, ← s1]; exact heap_alloc_new w1 _
  have hr : Row w3 w3.heap.size (some ⟨w2.heap.size, 0, none⟩) ((seven f a c).map .string) := by rw [hw3]; exact (row_of_block (heap_alloc_new w2 _)).more (by simp)
  have hput := KeyPut.Put_any _ 7 (seven f a c) w3 hr (by simp [maxLen]) hl
  generalize kput (lst (seven f a c)) = kk at *
  simp only [List.length_cons, List.length_nil, Nat.zero_add, Nat.reduceAdd] at hput
  have HB := Lib.hid ((b1.trans (b12.mono b1.size)).trans (b23.mono (b1.trans (b12.mono b1.size)).size))
  unfold uc at hw1 hw2 a2 c2 ⊢
  obtain ⟨d0, d1, d2⟩ := three_at a2
  obtain ⟨c0, c1, c3⟩ := three_at c2
  have HW1 := Lib.hid hw1
  have HW2 := Lib.hid hw2
  have HW3 := Lib.hid hw3
  have HBE := Lib.hid hbe
  have HS1 := Lib.hid s1
  have HS2 := Lib.hid s2
  clear hw1 hw2 hw3 hbe b1 b12 b23 s1 s2 a1 a2 c2 hr hl
  go_enter Try.func47, Try.ntmps47
  go_upto_region 1 with fail
  try rw [← HW1.out]
  try rw [← HW2.out]
  try rw [← HBE.out]
  go_wp2_with fail
  try rw [← HW3.out]
  (with_reducible refine hput.mono ?_)
  rintro e w4 ⟨rfl, hb⟩
  have HB4 := Lib.hid (HB.out.trans (hb.mono HB.out.size))
  clear hb d0 d1 d2 c0 c1 c3
  go_wp2_with fail
  go_ret
  exact ⟨rfl, HB4.out⟩
set_option maxHeartbeats 3200000 in
theorem parts_any (t : Tp) (w : World) :
    Calls Try.prog 52 #[.agg (tc t)] w (PartsPost w t) := by
  obtain ⟨k, i, r, ⟨uk, ui, ur⟩⟩ := t
  have hb := (al w (.cells #[.string k, .string i, .string r, .string uk, .string ui, .string ur] 25))
  have hb2 := Below.step hb (al _ (.cells #[.string k, .string i, .string r, .string uk, .string ui, .string ur] 9))
  have hr := (row_of_block (heap_alloc_new (w.alloc (.cells #[.string k, .string i, .string r, .string uk, .string ui, .string ur] 25)) (.cells #[.string k, .string i, .string r, .string uk, .string ui, .string ur] 9))).more (B' := ((w.alloc (.cells #[.string k, .string i, .string r, .string uk, .string ui, .string ur] 25)).alloc (.cells #[.string k, .string i, .string r, .string uk, .string ui, .string ur] 9)).heap.size) (by simp)
  have HF := Lib.hid (show PartsPost w ⟨k, i, r, ⟨uk, ui, ur⟩⟩ (.returned (.slice (some ⟨(w.alloc (.cells #[.string k, .string i, .string r, .string uk, .string ui, .string ur] 25)).heap.size, 0, none⟩) 6 6)) ((w.alloc (.cells #[.string k, .string i, .string r, .string uk, .string ui, .string ur] 25)).alloc (.cells #[.string k, .string i, .string r, .string uk, .string ui, .string ur] 9)) from ⟨_, _, rfl, hr, hb2⟩)
  clear hb hb2 hr
  unfold tc
  go_enter Try.func52, Try.ntmps52
  go_wp2_with fail
  go_ret
  exact (by simpa using HF.out)
set_option maxRecDepth 100000 in
set_option maxHeartbeats 12800000 in
theorem key_any (t : Tp) (w : World) (ht : TpF t) :
    Calls Try.prog 26 #[.agg (tc t)] w fun e w' => e = .returned (.tuple #[okS t.ok t.key, okE t.ok 111]) ∧ Below w.heap.size w w' := by
  have H1 := Lib.hid (fun w => check_any t w ht)
  have HO := Lib.hid (fun w => object_any t w)
  have H2 := Lib.hid (fun h w => keyOf_any sf t.obj t.u w (show t.key.length ≤ 300000 from by have := t.key_len h; omega))
  rw [show kput (lst (seven sf t.obj t.u)) = t.key from rfl] at H2
  unfold okS
  unfold okE at H1 ⊢
  generalize t.ok = ok at *
  generalize t.key = kk at *
  clear ht
  unfold tc at H1 HO ⊢
  unfold uc at HO H2
  obtain ⟨w1, hw1⟩ : ∃ v, v = w.alloc (.cells #[.string t.k, .string t.i, .string t.r, .string t.u.k, .string t.u.i, .string t.u.r] 25) := ⟨_, rfl⟩
  obtain ⟨b, hbe⟩ : ∃ v, v = w.heap.size := ⟨_, rfl⟩
  have HB1 := Lib.hid (show Below w.heap.size w w1 from by rw [hw1]; exact al _ _)
  have a1 : w1.heap[b]? = some (.cells #[.string t.k, .string t.i, .string t.r, .string t.u.k, .string t.u.i, .string t.u.r] 25 (0, 0)) := by rw [hw1, hbe]; exact heap_alloc_new w _
  have hl1 : b < w1.heap.size := by rw [hw1, hbe]; simp
  have HC := Lib.hid (fun (w' : World) (hw' : Below w1.heap.size w1 w') => six_at ((hw'.block b hl1).trans a1))
  have HD1 := Lib.hid (Below.refl w1.heap.size w1)
  have HW := Lib.hid hw1
  have HBE := Lib.hid hbe
  clear hw1 a1 hl1 hbe
  go_enter Try.func26, Try.ntmps26
  go_upto_region 1 with fail
  try rw [← HW.out]
  try rw [← HBE.out]
  clear HW
  have hh := H1.out w1
  obtain ⟨d0, d1, d2, d3, d4, d5⟩ := HC.out w1 HD1.out
  go_wp2_with fail
  (with_reducible refine hh.mono ?_)
  clear hh d0 d1 d2 d3 d4 d5
  rintro e w2 ⟨rfl, hb⟩
  have HD2 := Lib.hid (Below.step HD1.out hb)
  clear hb
  cases ok with
  | false =>
    go_wp2_with fail
    go_ret2
    exact ⟨rfl, HB1.out.trans (HD2.out.mono HB1.out.size)⟩
  | true =>
    obtain ⟨ks, hks⟩ : ∃ v : ByteArray, v = ⟨kk.toArray⟩ := ⟨_, rfl⟩
    have H5 := H2.out rfl
    rw [← hks] at H5
    have H6 := Lib.hid H5
    have HS := Lib.hid hks
    clear hks H1 H2 H5
    go_upto_region 4 with fail
    have hJ0 : Below w2.heap.size w2 (World.drew w2) := (Below.refl _ _).drew
    refine wp_region_any (by kernel_rfl) ?_
    change wpAny _ _ _ _ _ _ _ (World.drew _)
    refine Inv.inv_any (fun (i : Nat) (v : Value) (w : World) => match i with | 0 => v = .agg #[.string t.k, .string t.i, .string t.r, .string t.u.k, .string t.u.i, .string t.u.r] | 1 => v = .agg #[.string t.obj.k, .string t.obj.i, .string t.obj.r] | 2 => v = .pointer (some ⟨b, 3, none⟩) | 3 => v = .agg #[.string t.u.k, .string t.u.i, .string t.u.r] | 4 => v = .string ks | 5 => v = .string ks | 6 => v = .int .i64 0 | _ => True) (fun w' : World => Below w2.heap.size w2 w') _ 7 15 rfl rfl rfl (by kernel_rfl) (by kernel_rfl) hJ0 ?_ ?_ ?_ ?_
    · intro j v w w' h hb
      match j, h with
      | 0, h => exact h
      | 1, h => exact h
      | 2, h => exact h
      | 3, h => exact h
      | 4, h => exact h
      | 5, h => exact h
      | 6, h => exact h
      | (_ + 7), _ => exact trivial
    · skip
      refine Inv.from_cons _ _ _ _ rfl (fun _ a w hJ hF F K hK => ?_) ?_
      · have hz : a.tmps.size = 15 := hF.size
        have e1 : a.tmps[1]? = some (.pointer (some ⟨b, 0, none⟩)) := Inv2.some_slot (by rw [hz]; exact Nat.le_of_ble_eq_true rfl) (hF.slot 1 (by kernel_rfl))
        clear F hF hz
        obtain ⟨d0, d1, d2, d3, d4, d5⟩ := HC.out _ (Below.step HD2.out hJ)
        go_simp
        exact hK (.agg #[.string t.k, .string t.i, .string t.r, .string t.u.k, .string t.u.i, .string t.u.r]) _ hJ (Below.refl _ _) rfl
      refine Inv.from_cons _ _ _ _ rfl (fun _ a w hJ hF F K hK => ?_) ?_
      · have hz : a.tmps.size = 15 := hF.size
        have e10 : a.tmps[10]? = some (.agg #[.string t.k, .string t.i, .string t.r, .string t.u.k, .string t.u.i, .string t.u.r]) := Inv2.some_slot (by rw [hz]; exact Nat.le_of_ble_eq_true rfl) (F 0 (by kernel_rfl) 10 rfl)
        clear F hF hz
        have hh := HO.out w
        go_simp
        (with_reducible refine hh.mono ?_)
        rintro e' w' ⟨rfl, hb⟩
        go_simp
        exact hK _ _ (Below.step hJ hb) hb rfl
      refine Inv.from_cons _ _ _ _ rfl (fun _ a w hJ hF F K hK => ?_) ?_
      · have hz : a.tmps.size = 15 := hF.size
        have e1 : a.tmps[1]? = some (.pointer (some ⟨b, 0, none⟩)) := Inv2.some_slot (by rw [hz]; exact Nat.le_of_ble_eq_true rfl) (hF.slot 1 (by kernel_rfl))
        clear F hF hz
        go_simp
        exact hK (.pointer (some ⟨b, 3, none⟩)) _ hJ (Below.refl _ _) rfl
      refine Inv.from_cons _ _ _ _ rfl (fun _ a w hJ hF F K hK => ?_) ?_
      · have hz : a.tmps.size = 15 := hF.size
        have e12 : a.tmps[12]? = some (.pointer (some ⟨b, 3, none⟩)) := Inv2.some_slot (by rw [hz]; exact Nat.le_of_ble_eq_true rfl) (F 2 (by kernel_rfl) 12 rfl)
        clear F hF hz
        obtain ⟨d0, d1, d2, d3, d4, d5⟩ := HC.out _ (Below.step HD2.out hJ)
        go_simp
        exact hK (.agg #[.string t.u.k, .string t.u.i, .string t.u.r]) _ hJ (Below.refl _ _) rfl
      refine Inv.from_cons _ _ _ _ rfl (fun _ a w hJ hF F K hK => ?_) ?_
      · have hz : a.tmps.size = 15 := hF.size
        have e11 : a.tmps[11]? = some (.agg #[.string t.obj.k, .string t.obj.i, .string t.obj.r]) := Inv2.some_slot (by rw [hz]; exact Nat.le_of_ble_eq_true rfl) (F 1 (by kernel_rfl) 11 rfl)
        have e13 : a.tmps[13]? = some (.agg #[.string t.u.k, .string t.u.i, .string t.u.r]) := Inv2.some_slot (by rw [hz]; exact Nat.le_of_ble_eq_true rfl) (F 3 (by kernel_rfl) 13 rfl)
        clear F hF hz
        have hh := H6.out w
        go_simp
        (with_reducible refine hh.mono ?_)
        rintro e' w' ⟨rfl, hb⟩
        go_simp
        exact hK _ _ (Below.step hJ hb) hb rfl
      refine Inv.from_cons _ _ _ _ rfl (fun _ a w hJ hF F K hK => ?_) ?_
      · have hz : a.tmps.size = 15 := hF.size
        have e10 : a.tmps[10]? = some (.agg #[.string t.k, .string t.i, .string t.r, .string t.u.k, .string t.u.i, .string t.u.r]) := Inv2.some_slot (by rw [hz]; exact Nat.le_of_ble_eq_true rfl) (F 0 (by kernel_rfl) 10 rfl)
        have e11 : a.tmps[11]? = some (.agg #[.string t.obj.k, .string t.obj.i, .string t.obj.r]) := Inv2.some_slot (by rw [hz]; exact Nat.le_of_ble_eq_true rfl) (F 1 (by kernel_rfl) 11 rfl)
        have e12 : a.tmps[12]? = some (.pointer (some ⟨b, 3, none⟩)) := Inv2.some_slot (by rw [hz]; exact Nat.le_of_ble_eq_true rfl) (F 2 (by kernel_rfl) 12 rfl)
        have e13 : a.tmps[13]? = some (.agg #[.string t.u.k, .string t.u.i, .string t.u.r]) := Inv2.some_slot (by rw [hz]; exact Nat.le_of_ble_eq_true rfl) (F 3 (by kernel_rfl) 13 rfl)
        have e14 : a.tmps[14]? = some (.string ks) := Inv2.some_slot (by rw [hz]; exact Nat.le_of_ble_eq_true rfl) (F 4 (by kernel_rfl) 14 rfl)
        clear F hF hz
        go_simp
        exact hK (.string ks) _ hJ (Below.refl _ _) rfl
      refine Inv.from_cons _ _ _ _ rfl (fun _ a w hJ hF F K hK => ?_) ?_
      · have hz : a.tmps.size = 15 := hF.size
        have e10 : a.tmps[10]? = some (.agg #[.string t.k, .string t.i, .string t.r, .string t.u.k, .string t.u.i, .string t.u.r]) := Inv2.some_slot (by rw [hz]; exact Nat.le_of_ble_eq_true rfl) (F 0 (by kernel_rfl) 10 rfl)
        have e11 : a.tmps[11]? = some (.agg #[.string t.obj.k, .string t.obj.i, .string t.obj.r]) := Inv2.some_slot (by rw [hz]; exact Nat.le_of_ble_eq_true rfl) (F 1 (by kernel_rfl) 11 rfl)
        have e12 : a.tmps[12]? = some (.pointer (some ⟨b, 3, none⟩)) := Inv2.some_slot (by rw [hz]; exact Nat.le_of_ble_eq_true rfl) (F 2 (by kernel_rfl) 12 rfl)
        have e13 : a.tmps[13]? = some (.agg #[.string t.u.k, .string t.u.i, .string t.u.r]) := Inv2.some_slot (by rw [hz]; exact Nat.le_of_ble_eq_true rfl) (F 3 (by kernel_rfl) 13 rfl)
        have e14 : a.tmps[14]? = some (.string ks) := Inv2.some_slot (by rw [hz]; exact Nat.le_of_ble_eq_true rfl) (F 4 (by kernel_rfl) 14 rfl)
        have e2 : a.tmps[2]? = some (.string ks) := Inv2.some_slot (by rw [hz]; exact Nat.le_of_ble_eq_true rfl) (F 5 (by kernel_rfl) 2 rfl)
        clear F hF hz
        go_simp
        exact hK (.int .i64 0) _ hJ (Below.refl _ _) rfl
      exact Inv.from_end _ _ _ _ (by decide +kernel)
    · intro o ho; exact absurd ho (by simp)
    · intro _ a w hJ hF F
      obtain ⟨f, hf⟩ : ∃ f : Nat → Value, ∀ i, a.tmps.getD i undef = f i := ⟨_, fun _ => rfl⟩
      have g1 : f 1 = (.pointer (some ⟨b, 0, none⟩)) := (hf 1).symm.trans (hF.slot 1 (by kernel_rfl))
      have g10 : f 10 = (.agg #[.string t.k, .string t.i, .string t.r, .string t.u.k, .string t.u.i, .string t.u.r]) := (hf 10).symm.trans (F 0 10 rfl)
      have g11 : f 11 = (.agg #[.string t.obj.k, .string t.obj.i, .string t.obj.r]) := (hf 11).symm.trans (F 1 11 rfl)
      have g12 : f 12 = (.pointer (some ⟨b, 3, none⟩)) := (hf 12).symm.trans (F 2 12 rfl)
      have g13 : f 13 = (.agg #[.string t.u.k, .string t.u.i, .string t.u.r]) := (hf 13).symm.trans (F 3 13 rfl)
      have g14 : f 14 = (.string ks) := (hf 14).symm.trans (F 4 14 rfl)
      have g2 : f 2 = (.string ks) := (hf 2).symm.trans (F 5 2 rfl)
      have g3 : f 3 = (.int .i64 0) := (hf 3).symm.trans (F 6 3 rfl)
      have ha := Frames.frame (show a.tmps.size = 15 from hF.size) hF.defers hf (l := [f 0, f 1, f 2, f 3, f 4, f 5, f 6, f 7, f 8, f 9, f 10, f 11, f 12, f 13, f 14]) rfl
      simp only [g1, g10, g11, g12, g13, g14, g2, g3] at ha
      clear F hF hf g1 g10 g11 g12 g13 g14 g2 g3
      subst ha
      have HB := Lib.hid (HB1.out.trans ((Below.step HD2.out hJ).mono HB1.out.size))
      clear hJ
      go_wp2_with fail
      go_ret2
      exact ⟨by rw [HS.out]; rfl, HB.out⟩
set_option maxRecDepth 100000 in
set_option maxHeartbeats 12800000 in
theorem back_any (t : Tp) (w : World) (ht : TpF t) :
    Calls Try.prog 27 #[.agg (tc t)] w fun e w' => e = .returned (.tuple #[okS t.ok t.back, okE t.ok 111]) ∧ Below w.heap.size w w' := by
  have H1 := Lib.hid (fun w => check_any t w ht)
  have HO := Lib.hid (fun w => object_any t w)
  have H2 := Lib.hid (fun h w => keyOf_any sr t.u t.obj w (show t.back.length ≤ 300000 from by have := t.key_len h; omega))
  rw [show kput (lst (seven sr t.u t.obj)) = t.back from rfl] at H2
  unfold okS
  unfold okE at H1 ⊢
  generalize t.ok = ok at *
  generalize t.back = kk at *
  clear ht
  unfold tc at H1 HO ⊢
  unfold uc at HO H2
  obtain ⟨w1, hw1⟩ : ∃ v, v = w.alloc (.cells #[.string t.k, .string t.i, .string t.r, .string t.u.k, .string t.u.i, .string t.u.r] 25) := ⟨_, rfl⟩
  obtain ⟨b, hbe⟩ : ∃ v, v = w.heap.size := ⟨_, rfl⟩
  have HB1 := Lib.hid (show Below w.heap.size w w1 from by rw [hw1]; exact al _ _)
  have a1 : w1.heap[b]? = some (.cells #[.string t.k, .string t.i, .string t.r, .string t.u.k, .string t.u.i, .string t.u.r] 25 (0, 0)) := by rw [hw1, hbe]; exact heap_alloc_new w _
  have hl1 : b < w1.heap.size := by rw [hw1, hbe]; simp
  have HC := Lib.hid (fun (w' : World) (hw' : Below w1.heap.size w1 w') => six_at ((hw'.block b hl1).trans a1))
  have HD1 := Lib.hid (Below.refl w1.heap.size w1)
  have HW := Lib.hid hw1
  have HBE := Lib.hid hbe
  clear hw1 a1 hl1 hbe
  go_enter Try.func27, Try.ntmps27
  go_upto_region 1 with fail
  try rw [← HW.out]
  try rw [← HBE.out]
  clear HW
  have hh := H1.out w1
  obtain ⟨d0, d1, d2, d3, d4, d5⟩ := HC.out w1 HD1.out
  go_wp2_with fail
  (with_reducible refine hh.mono ?_)
  clear hh d0 d1 d2 d3 d4 d5
  rintro e w2 ⟨rfl, hb⟩
  have HD2 := Lib.hid (Below.step HD1.out hb)
  clear hb
  cases ok with
  | false =>
    go_wp2_with fail
    go_ret2
    exact ⟨rfl, HB1.out.trans (HD2.out.mono HB1.out.size)⟩
  | true =>
    obtain ⟨ks, hks⟩ : ∃ v : ByteArray, v = ⟨kk.toArray⟩ := ⟨_, rfl⟩
    have H5 := H2.out rfl
    rw [← hks] at H5
    have H6 := Lib.hid H5
    have HS := Lib.hid hks
    clear hks H1 H2 H5
    go_upto_region 4 with fail
    have hJ0 : Below w2.heap.size w2 (World.drew w2) := (Below.refl _ _).drew
    refine wp_region_any (by kernel_rfl) ?_
    change wpAny _ _ _ _ _ _ _ (World.drew _)
    refine Inv.inv_any (fun (i : Nat) (v : Value) (w : World) => match i with | 0 => v = .pointer (some ⟨b, 3, none⟩) | 1 => v = .agg #[.string t.u.k, .string t.u.i, .string t.u.r] | 2 => v = .agg #[.string t.k, .string t.i, .string t.r, .string t.u.k, .string t.u.i, .string t.u.r] | 3 => v = .agg #[.string t.obj.k, .string t.obj.i, .string t.obj.r] | 4 => v = .string ks | 5 => v = .string ks | 6 => v = .int .i64 0 | _ => True) (fun w' : World => Below w2.heap.size w2 w') _ 7 15 rfl rfl rfl (by kernel_rfl) (by kernel_rfl) hJ0 ?_ ?_ ?_ ?_
    · intro j v w w' h hb
      match j, h with
      | 0, h => exact h
      | 1, h => exact h
      | 2, h => exact h
      | 3, h => exact h
      | 4, h => exact h
      | 5, h => exact h
      | 6, h => exact h
      | (_ + 7), _ => exact trivial
    · skip
      refine Inv.from_cons _ _ _ _ rfl (fun _ a w hJ hF F K hK => ?_) ?_
      · have hz : a.tmps.size = 15 := hF.size
        have e1 : a.tmps[1]? = some (.pointer (some ⟨b, 0, none⟩)) := Inv2.some_slot (by rw [hz]; exact Nat.le_of_ble_eq_true rfl) (hF.slot 1 (by kernel_rfl))
        clear F hF hz
        go_simp
        exact hK (.pointer (some ⟨b, 3, none⟩)) _ hJ (Below.refl _ _) rfl
      refine Inv.from_cons _ _ _ _ rfl (fun _ a w hJ hF F K hK => ?_) ?_
      · have hz : a.tmps.size = 15 := hF.size
        have e10 : a.tmps[10]? = some (.pointer (some ⟨b, 3, none⟩)) := Inv2.some_slot (by rw [hz]; exact Nat.le_of_ble_eq_true rfl) (F 0 (by kernel_rfl) 10 rfl)
        clear F hF hz
        obtain ⟨d0, d1, d2, d3, d4, d5⟩ := HC.out _ (Below.step HD2.out hJ)
        go_simp
        exact hK (.agg #[.string t.u.k, .string t.u.i, .string t.u.r]) _ hJ (Below.refl _ _) rfl
      refine Inv.from_cons _ _ _ _ rfl (fun _ a w hJ hF F K hK => ?_) ?_
      · have hz : a.tmps.size = 15 := hF.size
        have e1 : a.tmps[1]? = some (.pointer (some ⟨b, 0, none⟩)) := Inv2.some_slot (by rw [hz]; exact Nat.le_of_ble_eq_true rfl) (hF.slot 1 (by kernel_rfl))
        clear F hF hz
        obtain ⟨d0, d1, d2, d3, d4, d5⟩ := HC.out _ (Below.step HD2.out hJ)
        go_simp
        exact hK (.agg #[.string t.k, .string t.i, .string t.r, .string t.u.k, .string t.u.i, .string t.u.r]) _ hJ (Below.refl _ _) rfl
      refine Inv.from_cons _ _ _ _ rfl (fun _ a w hJ hF F K hK => ?_) ?_
      · have hz : a.tmps.size = 15 := hF.size
        have e12 : a.tmps[12]? = some (.agg #[.string t.k, .string t.i, .string t.r, .string t.u.k, .string t.u.i, .string t.u.r]) := Inv2.some_slot (by rw [hz]; exact Nat.le_of_ble_eq_true rfl) (F 2 (by kernel_rfl) 12 rfl)
        clear F hF hz
        have hh := HO.out w
        go_simp
        (with_reducible refine hh.mono ?_)
        rintro e' w' ⟨rfl, hb⟩
        go_simp
        exact hK _ _ (Below.step hJ hb) hb rfl
      refine Inv.from_cons _ _ _ _ rfl (fun _ a w hJ hF F K hK => ?_) ?_
      · have hz : a.tmps.size = 15 := hF.size
        have e11 : a.tmps[11]? = some (.agg #[.string t.u.k, .string t.u.i, .string t.u.r]) := Inv2.some_slot (by rw [hz]; exact Nat.le_of_ble_eq_true rfl) (F 1 (by kernel_rfl) 11 rfl)
        have e13 : a.tmps[13]? = some (.agg #[.string t.obj.k, .string t.obj.i, .string t.obj.r]) := Inv2.some_slot (by rw [hz]; exact Nat.le_of_ble_eq_true rfl) (F 3 (by kernel_rfl) 13 rfl)
        clear F hF hz
        have hh := H6.out w
        go_simp
        (with_reducible refine hh.mono ?_)
        rintro e' w' ⟨rfl, hb⟩
        go_simp
        exact hK _ _ (Below.step hJ hb) hb rfl
      refine Inv.from_cons _ _ _ _ rfl (fun _ a w hJ hF F K hK => ?_) ?_
      · have hz : a.tmps.size = 15 := hF.size
        have e10 : a.tmps[10]? = some (.pointer (some ⟨b, 3, none⟩)) := Inv2.some_slot (by rw [hz]; exact Nat.le_of_ble_eq_true rfl) (F 0 (by kernel_rfl) 10 rfl)
        have e11 : a.tmps[11]? = some (.agg #[.string t.u.k, .string t.u.i, .string t.u.r]) := Inv2.some_slot (by rw [hz]; exact Nat.le_of_ble_eq_true rfl) (F 1 (by kernel_rfl) 11 rfl)
        have e12 : a.tmps[12]? = some (.agg #[.string t.k, .string t.i, .string t.r, .string t.u.k, .string t.u.i, .string t.u.r]) := Inv2.some_slot (by rw [hz]; exact Nat.le_of_ble_eq_true rfl) (F 2 (by kernel_rfl) 12 rfl)
        have e13 : a.tmps[13]? = some (.agg #[.string t.obj.k, .string t.obj.i, .string t.obj.r]) := Inv2.some_slot (by rw [hz]; exact Nat.le_of_ble_eq_true rfl) (F 3 (by kernel_rfl) 13 rfl)
        have e14 : a.tmps[14]? = some (.string ks) := Inv2.some_slot (by rw [hz]; exact Nat.le_of_ble_eq_true rfl) (F 4 (by kernel_rfl) 14 rfl)
        clear F hF hz
        go_simp
        exact hK (.string ks) _ hJ (Below.refl _ _) rfl
      refine Inv.from_cons _ _ _ _ rfl (fun _ a w hJ hF F K hK => ?_) ?_
      · have hz : a.tmps.size = 15 := hF.size
        have e10 : a.tmps[10]? = some (.pointer (some ⟨b, 3, none⟩)) := Inv2.some_slot (by rw [hz]; exact Nat.le_of_ble_eq_true rfl) (F 0 (by kernel_rfl) 10 rfl)
        have e11 : a.tmps[11]? = some (.agg #[.string t.u.k, .string t.u.i, .string t.u.r]) := Inv2.some_slot (by rw [hz]; exact Nat.le_of_ble_eq_true rfl) (F 1 (by kernel_rfl) 11 rfl)
        have e12 : a.tmps[12]? = some (.agg #[.string t.k, .string t.i, .string t.r, .string t.u.k, .string t.u.i, .string t.u.r]) := Inv2.some_slot (by rw [hz]; exact Nat.le_of_ble_eq_true rfl) (F 2 (by kernel_rfl) 12 rfl)
        have e13 : a.tmps[13]? = some (.agg #[.string t.obj.k, .string t.obj.i, .string t.obj.r]) := Inv2.some_slot (by rw [hz]; exact Nat.le_of_ble_eq_true rfl) (F 3 (by kernel_rfl) 13 rfl)
        have e14 : a.tmps[14]? = some (.string ks) := Inv2.some_slot (by rw [hz]; exact Nat.le_of_ble_eq_true rfl) (F 4 (by kernel_rfl) 14 rfl)
        have e2 : a.tmps[2]? = some (.string ks) := Inv2.some_slot (by rw [hz]; exact Nat.le_of_ble_eq_true rfl) (F 5 (by kernel_rfl) 2 rfl)
        clear F hF hz
        go_simp
        exact hK (.int .i64 0) _ hJ (Below.refl _ _) rfl
      exact Inv.from_end _ _ _ _ (by decide +kernel)
    · intro o ho; exact absurd ho (by simp)
    · intro _ a w hJ hF F
      obtain ⟨f, hf⟩ : ∃ f : Nat → Value, ∀ i, a.tmps.getD i undef = f i := ⟨_, fun _ => rfl⟩
      have g1 : f 1 = (.pointer (some ⟨b, 0, none⟩)) := (hf 1).symm.trans (hF.slot 1 (by kernel_rfl))
      have g10 : f 10 = (.pointer (some ⟨b, 3, none⟩)) := (hf 10).symm.trans (F 0 10 rfl)
      have g11 : f 11 = (.agg #[.string t.u.k, .string t.u.i, .string t.u.r]) := (hf 11).symm.trans (F 1 11 rfl)
      have g12 : f 12 = (.agg #[.string t.k, .string t.i, .string t.r, .string t.u.k, .string t.u.i, .string t.u.r]) := (hf 12).symm.trans (F 2 12 rfl)
      have g13 : f 13 = (.agg #[.string t.obj.k, .string t.obj.i, .string t.obj.r]) := (hf 13).symm.trans (F 3 13 rfl)
      have g14 : f 14 = (.string ks) := (hf 14).symm.trans (F 4 14 rfl)
      have g2 : f 2 = (.string ks) := (hf 2).symm.trans (F 5 2 rfl)
      have g3 : f 3 = (.int .i64 0) := (hf 3).symm.trans (F 6 3 rfl)
      have ha := Frames.frame (show a.tmps.size = 15 from hF.size) hF.defers hf (l := [f 0, f 1, f 2, f 3, f 4, f 5, f 6, f 7, f 8, f 9, f 10, f 11, f 12, f 13, f 14]) rfl
      simp only [g1, g10, g11, g12, g13, g14, g2, g3] at ha
      clear F hF hf g1 g10 g11 g12 g13 g14 g2 g3
      subst ha
      have HB := Lib.hid (HB1.out.trans ((Below.step HD2.out hJ).mono HB1.out.size))
      clear hJ
      go_wp2_with fail
      go_ret2
      exact ⟨by rw [HS.out]; rfl, HB.out⟩
set_option maxRecDepth 100000 in
set_option maxHeartbeats 12800000 in
theorem less_any (t s : Tp) (w : World) :
    Calls Try.prog 31 #[.agg (tc t), .agg (tc s)] w fun e w' => e = .returned (.bool (less (lst t.parts) (lst s.parts))) ∧ Below w.heap.size w w' := by
  have HPA := Lib.hid (fun w => parts_any t w)
  have HPB := Lib.hid (fun w => parts_any s w)
  have hq := fun w => TupleEq.tp_eq t s w
  obtain ⟨w1, hw1⟩ : ∃ v, v = w.alloc (.cells (tc t) 25) := ⟨_, rfl⟩
  obtain ⟨w2, hw2⟩ : ∃ v, v = w1.alloc (.cells (tc s) 25) := ⟨_, rfl⟩
  obtain ⟨b, hbe⟩ : ∃ v, v = w.heap.size := ⟨_, rfl⟩
  have b1 : Below w.heap.size w w1 := by rw [hw1]; exact al _ _
  have b12 : Below w1.heap.size w1 w2 := by rw [hw2]; exact al _ _
  have hs1 : w1.heap.size = b + 1 := by rw [hw1, hbe]; simp
  have a1 : w1.heap[b]? = some (.cells (tc t) 25 (0, 0)) := by rw [hw1, hbe]; exact heap_alloc_new w _
  have a2 : w2.heap[b]? = some (.cells (tc t) 25 (0, 0)) := (b12.block b (by omega)).trans a1
  have c2 : w2.heap[b + 1]? = some (.cells (tc s) 25 (0, 0)) := by rw [hw2, ← hs1]; exact heap_alloc_new w1 _
  have hl2 : b + 1 < w2.heap.size := by have : w2.heap.size = w1.heap.size + 1 := (by rw [hw2]; simp); omega
  have HB1 := Lib.hid (Below.step b1 b12)
  have HC := Lib.hid (fun (w' : World) (hw' : Below w2.heap.size w2 w') => six_at ((hw'.block b (by omega)).trans a2))
  have HD := Lib.hid (fun (w' : World) (hw' : Below w2.heap.size w2 w') => six_at ((hw'.block (b + 1) hl2).trans c2))
  have HW1 := Lib.hid hw1
  have HW2 := Lib.hid hw2
  have HBE := Lib.hid hbe
  have HS1 := Lib.hid hs1
  clear hw1 hw2 hbe b1 b12 hs1 a1 a2 c2 hl2
  unfold tc at HW1 HW2 HPA HPB hq ⊢
  go_enter Try.func31, Try.ntmps31
  go_upto_region 1 with fail
  try rw [← HW1.out]
  try rw [← HW2.out]
  try rw [← HBE.out]
  try rw [HS1.out]
  clear HW1 HW2
  obtain ⟨d0, d1, d2, d3, d4, d5⟩ := HC.out _ (Below.refl _ _)
  obtain ⟨c0, c1, c2, c3, c4, c5⟩ := HD.out _ (Below.refl _ _)
  by_cases he : t = s
  · rw [decide_eq_true he] at hq
    have HL := Lib.hid (show less (lst t.parts) (lst s.parts) = false from by rw [he, less_key]; exact bl_irrefl _)
    clear he HPA HPB
    go_wp2_with fail
    go_ret
    exact ⟨ret_bool HL.out.symm, HB1.out⟩
  · rw [decide_eq_false he] at hq
    clear he
    go_upto_region 3 with fail
    clear d0 d1 d2 d3 d4 d5 c0 c1 c2 c3 c4 c5 hq
    have hJ0 : Below w2.heap.size w2 (World.drew w2) := (Below.refl _ _).drew
    refine wp_region_any (by kernel_rfl) ?_
    change wpAny _ _ _ _ _ _ _ (World.drew _)
    refine Inv.inv_any (fun (i : Nat) (v : Value) (w : World) => match i with | 0 => v = .agg #[.string t.k, .string t.i, .string t.r, .string t.u.k, .string t.u.i, .string t.u.r] | 1 => PtV t v w | 2 => v = .agg #[.string s.k, .string s.i, .string s.r, .string s.u.k, .string s.u.i, .string s.u.r] | 3 => PtV s v w | 4 => v = .bool (less (lst t.parts) (lst s.parts)) | 5 => v = .bool (less (lst t.parts) (lst s.parts)) | _ => True) (fun w' : World => Below w2.heap.size w2 w') _ 6 13 rfl rfl rfl (by kernel_rfl) (by kernel_rfl) hJ0 ?_ ?_ ?_ ?_
    · intro j v w w' h hb
      match j, h with
      | 0, h => exact h
      | 1, h => exact PtV.below h hb
      | 2, h => exact h
      | 3, h => exact PtV.below h hb
      | 4, h => exact h
      | 5, h => exact h
      | (_ + 6), _ => exact trivial
    · skip
      refine Inv.from_cons _ _ _ _ rfl (fun _ a w hJ hF F K hK => ?_) ?_
      · have hz : a.tmps.size = 13 := hF.size
        have e2 : a.tmps[2]? = some (.pointer (some ⟨b, 0, none⟩)) := Inv2.some_slot (by rw [hz]; exact Nat.le_of_ble_eq_true rfl) (hF.slot 2 (by kernel_rfl))
        clear F hF hz
        obtain ⟨d0, d1, d2, d3, d4, d5⟩ := HC.out _ hJ
        go_simp
        exact hK (.agg #[.string t.k, .string t.i, .string t.r, .string t.u.k, .string t.u.i, .string t.u.r]) _ hJ (Below.refl _ _) rfl
      refine Inv.from_cons _ _ _ _ rfl (fun _ a w hJ hF F K hK => ?_) ?_
      · have hz : a.tmps.size = 13 := hF.size
        have e8 : a.tmps[8]? = some (.agg #[.string t.k, .string t.i, .string t.r, .string t.u.k, .string t.u.i, .string t.u.r]) := Inv2.some_slot (by rw [hz]; exact Nat.le_of_ble_eq_true rfl) (F 0 (by kernel_rfl) 8 rfl)
        clear F hF hz
        have hh := HPA.out w
        go_simp
        (with_reducible refine hh.mono ?_)
        rintro e' w' hq
        unfold PartsPost at hq
        obtain ⟨A9, c9, rfl, hr, hb⟩ := hq
        go_simp
        exact hK _ _ (Below.step hJ hb) hb ⟨A9, c9, rfl, hr⟩
      refine Inv.from_cons _ _ _ _ rfl (fun _ a w hJ hF F K hK => ?_) ?_
      · have hz : a.tmps.size = 13 := hF.size
        have e3 : a.tmps[3]? = some (.pointer (some ⟨b + 1, 0, none⟩)) := Inv2.some_slot (by rw [hz]; exact Nat.le_of_ble_eq_true rfl) (hF.slot 3 (by kernel_rfl))
        clear F hF hz
        obtain ⟨d0, d1, d2, d3, d4, d5⟩ := HD.out _ hJ
        go_simp
        exact hK (.agg #[.string s.k, .string s.i, .string s.r, .string s.u.k, .string s.u.i, .string s.u.r]) _ hJ (Below.refl _ _) rfl
      refine Inv.from_cons _ _ _ _ rfl (fun _ a w hJ hF F K hK => ?_) ?_
      · have hz : a.tmps.size = 13 := hF.size
        obtain ⟨x9, e9, f1⟩ : ∃ xv, a.tmps[9]? = some xv ∧ PtV t xv w := ⟨_, Inv2.some_slot (by rw [hz]; exact Nat.le_of_ble_eq_true rfl) rfl, F 1 (by kernel_rfl) 9 rfl⟩
        have e10 : a.tmps[10]? = some (.agg #[.string s.k, .string s.i, .string s.r, .string s.u.k, .string s.u.i, .string s.u.r]) := Inv2.some_slot (by rw [hz]; exact Nat.le_of_ble_eq_true rfl) (F 2 (by kernel_rfl) 10 rfl)
        clear F hF hz
        have hh := HPB.out w
        go_simp
        (with_reducible refine hh.mono ?_)
        rintro e' w' hq
        unfold PartsPost at hq
        obtain ⟨A9, c9, rfl, hr, hb⟩ := hq
        go_simp
        exact hK _ _ (Below.step hJ hb) hb ⟨A9, c9, rfl, hr⟩
      refine Inv.from_cons _ _ _ _ rfl (fun _ a w hJ hF F K hK => ?_) ?_
      · have hz : a.tmps.size = 13 := hF.size
        obtain ⟨x9, e9, f1⟩ : ∃ xv, a.tmps[9]? = some xv ∧ PtV t xv w := ⟨_, Inv2.some_slot (by rw [hz]; exact Nat.le_of_ble_eq_true rfl) rfl, F 1 (by kernel_rfl) 9 rfl⟩
        obtain ⟨x11, e11, f3⟩ : ∃ xv, a.tmps[11]? = some xv ∧ PtV s xv w := ⟨_, Inv2.some_slot (by rw [hz]; exact Nat.le_of_ble_eq_true rfl) rfl, F 3 (by kernel_rfl) 11 rfl⟩
        clear F hF hz
        obtain ⟨A8, c8, hx8, hr8⟩ := f1
        obtain ⟨A9, c9, hx9, hr9⟩ := f3
        subst hx8 hx9
        have hh := KeyRead.Less_q A8 A9 c8 c9 t.parts s.parts w hr8 hr9 (by simp [Tp.parts, maxLen]) (by simp [Tp.parts, maxLen])
        simp only [Tp.parts, List.length_cons, List.length_nil, Nat.zero_add, Nat.reduceAdd] at hh
        go_simp
        (with_reducible refine hh.mono ?_)
        rintro e' w' ⟨rfl, rfl⟩
        go_simp
        exact hK _ _ hJ (Below.refl _ _) rfl
      refine Inv.from_cons _ _ _ _ rfl (fun _ a w hJ hF F K hK => ?_) ?_
      · have hz : a.tmps.size = 13 := hF.size
        have e8 : a.tmps[8]? = some (.agg #[.string t.k, .string t.i, .string t.r, .string t.u.k, .string t.u.i, .string t.u.r]) := Inv2.some_slot (by rw [hz]; exact Nat.le_of_ble_eq_true rfl) (F 0 (by kernel_rfl) 8 rfl)
        obtain ⟨x9, e9, f1⟩ : ∃ xv, a.tmps[9]? = some xv ∧ PtV t xv w := ⟨_, Inv2.some_slot (by rw [hz]; exact Nat.le_of_ble_eq_true rfl) rfl, F 1 (by kernel_rfl) 9 rfl⟩
        have e10 : a.tmps[10]? = some (.agg #[.string s.k, .string s.i, .string s.r, .string s.u.k, .string s.u.i, .string s.u.r]) := Inv2.some_slot (by rw [hz]; exact Nat.le_of_ble_eq_true rfl) (F 2 (by kernel_rfl) 10 rfl)
        obtain ⟨x11, e11, f3⟩ : ∃ xv, a.tmps[11]? = some xv ∧ PtV s xv w := ⟨_, Inv2.some_slot (by rw [hz]; exact Nat.le_of_ble_eq_true rfl) rfl, F 3 (by kernel_rfl) 11 rfl⟩
        have e12 : a.tmps[12]? = some (.bool (less (lst t.parts) (lst s.parts))) := Inv2.some_slot (by rw [hz]; exact Nat.le_of_ble_eq_true rfl) (F 4 (by kernel_rfl) 12 rfl)
        clear F hF hz
        go_simp
        exact hK (.bool (less (lst t.parts) (lst s.parts))) _ hJ (Below.refl _ _) rfl
      exact Inv.from_end _ _ _ _ (by decide +kernel)
    · intro o ho; exact absurd ho (by simp)
    · intro _ a w hJ hF F
      obtain ⟨f, hf⟩ : ∃ f : Nat → Value, ∀ i, a.tmps.getD i undef = f i := ⟨_, fun _ => rfl⟩
      have g2 : f 2 = (.pointer (some ⟨b, 0, none⟩)) := (hf 2).symm.trans (hF.slot 2 (by kernel_rfl))
      have g3 : f 3 = (.pointer (some ⟨b + 1, 0, none⟩)) := (hf 3).symm.trans (hF.slot 3 (by kernel_rfl))
      have g8 : f 8 = (.agg #[.string t.k, .string t.i, .string t.r, .string t.u.k, .string t.u.i, .string t.u.r]) := (hf 8).symm.trans (F 0 8 rfl)
      obtain ⟨x9, g9⟩ : ∃ x, f 9 = x := ⟨_, rfl⟩
      have f1 : PtV t x9 w := by rw [← g9, ← hf 9]; exact F 1 9 rfl
      have g10 : f 10 = (.agg #[.string s.k, .string s.i, .string s.r, .string s.u.k, .string s.u.i, .string s.u.r]) := (hf 10).symm.trans (F 2 10 rfl)
      obtain ⟨x11, g11⟩ : ∃ x, f 11 = x := ⟨_, rfl⟩
      have f3 : PtV s x11 w := by rw [← g11, ← hf 11]; exact F 3 11 rfl
      have g12 : f 12 = (.bool (less (lst t.parts) (lst s.parts))) := (hf 12).symm.trans (F 4 12 rfl)
      have g4 : f 4 = (.bool (less (lst t.parts) (lst s.parts))) := (hf 4).symm.trans (F 5 4 rfl)
      have ha := Frames.frame (show a.tmps.size = 13 from hF.size) hF.defers hf (l := [f 0, f 1, f 2, f 3, f 4, f 5, f 6, f 7, f 8, f 9, f 10, f 11, f 12]) rfl
      simp only [g2, g3, g8, g9, g10, g11, g12, g4] at ha
      clear F hF hf g2 g3 g8 g9 g10 g11 g12 g4
      subst ha
      have HB := Lib.hid (HB1.out.trans (hJ.mono HB1.out.size))
      clear hJ
      go_wp2_with fail
      go_ret
      exact ⟨rfl, HB.out⟩
theorem row_at {w : World} {B g o : Nat} {vs : List Value} {v : Value} (h : Row w B (some ⟨g, o, none⟩) vs) (k : Nat) (hk : vs[k]? = some v) : w.cell? ⟨g, o + k, none⟩ = some v := by
  rw [show (⟨g, o + k, none⟩ : Addr) = (⟨g, o, none⟩ : Addr).add k from by unfold Addr.add; split <;> simp_all]
  obtain ⟨ad', e, _, hc⟩ := h k v hk
  injection e with e
  subst e
  exact hc
set_option maxRecDepth 100000 in
set_option maxHeartbeats 12800000 in
theorem user_any (g o c : Nat) (p q r : ByteArray) (w : World) (hr : Row w w.heap.size (some ⟨g, o, none⟩) [.string p, .string q, .string r]) :
    Calls Try.prog 49 #[.slice (some ⟨g, o, none⟩) 3 c] w fun e w' => e = .returned (.agg (uc ⟨p, q, r⟩)) ∧ Below w.heap.size w w' := by
  unfold uc
  obtain ⟨w1, hw1⟩ : ∃ v, v = w.alloc (.cells #[.string ⟨#[]⟩, .string ⟨#[]⟩, .string ⟨#[]⟩] 23) := ⟨_, rfl⟩
  obtain ⟨b, hbe⟩ : ∃ v, v = w.heap.size := ⟨_, rfl⟩
  have b1 : Below w.heap.size w w1 := by rw [hw1]; exact al _ _
  have a1 : w1.heap[b]? = some (.cells #[.string ⟨#[]⟩, .string ⟨#[]⟩, .string ⟨#[]⟩] 23 (0, 0)) := by rw [hw1, hbe]; exact heap_alloc_new w _
  have hl1 : b < w1.heap.size := by rw [hw1, hbe]; simp
  have hr1 := hr.belowSize b1
  have HA := Lib.hid (fun (w' : World) (hw' : Below w1.heap.size w1 w') => (hw'.block b hl1).trans a1)
  have HLE := Lib.hid (show w.heap.size ≤ b from by rw [hbe]; exact Nat.le_refl _)
  have HC := Lib.hid (fun (w' : World) (hw' : Below w1.heap.size w1 w') => show w'.cell? ⟨g, o, none⟩ = some (.string p) ∧ w'.cell? ⟨g, o + 1, none⟩ = some (.string q) ∧ w'.cell? ⟨g, o + 2, none⟩ = some (.string r) from ⟨row_at (hr1.below hw') 0 rfl, row_at (hr1.below hw') 1 rfl, row_at (hr1.below hw') 2 rfl⟩)
  have HB1 := Lib.hid b1
  have HW := Lib.hid hw1
  have HBE := Lib.hid hbe
  clear hw1 a1 hl1 hbe hr hr1 b1
  go_enter Try.func49, Try.ntmps49
  go_upto_region 1 with fail
  try rw [← HW.out]
  try rw [← HBE.out]
  clear HW
  have hJ0 : Below w1.heap.size w1 (World.drew w1) := (Below.refl _ _).drew
  refine wp_region_any (by kernel_rfl) ?_
  change wpAny _ _ _ _ _ _ _ (World.drew _)
  refine Inv.inv_any (fun (i : Nat) (v : Value) (w : World) => match i with | 0 => v = .slice (some ⟨g, o, none⟩) 3 c | 1 => v = .pointer (some ⟨g, o, none⟩) | 2 => v = .string p | 3 => v = .slice (some ⟨g, o, none⟩) 3 c | 4 => v = .pointer (some ⟨g, o + 1, none⟩) | 5 => v = .string q | 6 => v = .slice (some ⟨g, o, none⟩) 3 c | 7 => v = .pointer (some ⟨g, o + 2, none⟩) | 8 => v = .string r | 9 => v = .agg #[.string p, .string q, .string r] | _ => True) (fun w' : World => Below w1.heap.size w1 w') _ 10 13 rfl rfl rfl (by kernel_rfl) (by kernel_rfl) hJ0 ?_ ?_ ?_ ?_
  · intro j v w w' h hb
    match j, h with
    | 0, h => exact h
    | 1, h => exact h
    | 2, h => exact h
    | 3, h => exact h
    | 4, h => exact h
    | 5, h => exact h
    | 6, h => exact h
    | 7, h => exact h
    | 8, h => exact h
    | 9, h => exact h
    | 10, _ => exact trivial
    | (_ + 11), _ => exact trivial
  · skip
    refine Inv.from_cons _ _ _ _ rfl (fun _ a w hJ hF F K hK => ?_) ?_
    · have hz : a.tmps.size = 13 := hF.size
      have e0 : a.tmps[0]? = some (.slice (some ⟨g, o, none⟩) 3 c) := Inv2.some_slot (by rw [hz]; exact Nat.le_of_ble_eq_true rfl) (hF.slot 0 (by kernel_rfl))
      clear F hF hz
      go_simp
      exact hK (.slice (some ⟨g, o, none⟩) 3 c) _ hJ (Below.refl _ _) rfl
    refine Inv.from_cons _ _ _ _ rfl (fun _ a w hJ hF F K hK => ?_) ?_
    · have hz : a.tmps.size = 13 := hF.size
      have e3 : a.tmps[3]? = some (.slice (some ⟨g, o, none⟩) 3 c) := Inv2.some_slot (by rw [hz]; exact Nat.le_of_ble_eq_true rfl) (F 0 (by kernel_rfl) 3 rfl)
      clear F hF hz
      go_simp
      exact hK (.pointer (some ⟨g, o, none⟩)) _ hJ (Below.refl _ _) rfl
    refine Inv.from_cons _ _ _ _ rfl (fun _ a w hJ hF F K hK => ?_) ?_
    · have hz : a.tmps.size = 13 := hF.size
      have e4 : a.tmps[4]? = some (.pointer (some ⟨g, o, none⟩)) := Inv2.some_slot (by rw [hz]; exact Nat.le_of_ble_eq_true rfl) (F 1 (by kernel_rfl) 4 rfl)
      clear F hF hz
      obtain ⟨d0, d1, d2⟩ := HC.out _ hJ
      go_simp
      exact hK (.string p) _ hJ (Below.refl _ _) rfl
    refine Inv.from_cons _ _ _ _ rfl (fun _ a w hJ hF F K hK => ?_) ?_
    · have hz : a.tmps.size = 13 := hF.size
      have e0 : a.tmps[0]? = some (.slice (some ⟨g, o, none⟩) 3 c) := Inv2.some_slot (by rw [hz]; exact Nat.le_of_ble_eq_true rfl) (hF.slot 0 (by kernel_rfl))
      clear F hF hz
      go_simp
      exact hK (.slice (some ⟨g, o, none⟩) 3 c) _ hJ (Below.refl _ _) rfl
    refine Inv.from_cons _ _ _ _ rfl (fun _ a w hJ hF F K hK => ?_) ?_
    · have hz : a.tmps.size = 13 := hF.size
      have e6 : a.tmps[6]? = some (.slice (some ⟨g, o, none⟩) 3 c) := Inv2.some_slot (by rw [hz]; exact Nat.le_of_ble_eq_true rfl) (F 3 (by kernel_rfl) 6 rfl)
      clear F hF hz
      go_simp
      exact hK (.pointer (some ⟨g, o + 1, none⟩)) _ hJ (Below.refl _ _) rfl
    refine Inv.from_cons _ _ _ _ rfl (fun _ a w hJ hF F K hK => ?_) ?_
    · have hz : a.tmps.size = 13 := hF.size
      have e7 : a.tmps[7]? = some (.pointer (some ⟨g, o + 1, none⟩)) := Inv2.some_slot (by rw [hz]; exact Nat.le_of_ble_eq_true rfl) (F 4 (by kernel_rfl) 7 rfl)
      clear F hF hz
      obtain ⟨d0, d1, d2⟩ := HC.out _ hJ
      go_simp
      exact hK (.string q) _ hJ (Below.refl _ _) rfl
    refine Inv.from_cons _ _ _ _ rfl (fun _ a w hJ hF F K hK => ?_) ?_
    · have hz : a.tmps.size = 13 := hF.size
      have e0 : a.tmps[0]? = some (.slice (some ⟨g, o, none⟩) 3 c) := Inv2.some_slot (by rw [hz]; exact Nat.le_of_ble_eq_true rfl) (hF.slot 0 (by kernel_rfl))
      clear F hF hz
      go_simp
      exact hK (.slice (some ⟨g, o, none⟩) 3 c) _ hJ (Below.refl _ _) rfl
    refine Inv.from_cons _ _ _ _ rfl (fun _ a w hJ hF F K hK => ?_) ?_
    · have hz : a.tmps.size = 13 := hF.size
      have e9 : a.tmps[9]? = some (.slice (some ⟨g, o, none⟩) 3 c) := Inv2.some_slot (by rw [hz]; exact Nat.le_of_ble_eq_true rfl) (F 6 (by kernel_rfl) 9 rfl)
      clear F hF hz
      go_simp
      exact hK (.pointer (some ⟨g, o + 2, none⟩)) _ hJ (Below.refl _ _) rfl
    refine Inv.from_cons _ _ _ _ rfl (fun _ a w hJ hF F K hK => ?_) ?_
    · have hz : a.tmps.size = 13 := hF.size
      have e10 : a.tmps[10]? = some (.pointer (some ⟨g, o + 2, none⟩)) := Inv2.some_slot (by rw [hz]; exact Nat.le_of_ble_eq_true rfl) (F 7 (by kernel_rfl) 10 rfl)
      clear F hF hz
      obtain ⟨d0, d1, d2⟩ := HC.out _ hJ
      go_simp
      exact hK (.string r) _ hJ (Below.refl _ _) rfl
    refine Inv.from_cons _ _ _ _ rfl (fun _ a w hJ hF F K hK => ?_) ?_
    · have hz : a.tmps.size = 13 := hF.size
      have e5 : a.tmps[5]? = some (.string p) := Inv2.some_slot (by rw [hz]; exact Nat.le_of_ble_eq_true rfl) (F 2 (by kernel_rfl) 5 rfl)
      have e8 : a.tmps[8]? = some (.string q) := Inv2.some_slot (by rw [hz]; exact Nat.le_of_ble_eq_true rfl) (F 5 (by kernel_rfl) 8 rfl)
      have e11 : a.tmps[11]? = some (.string r) := Inv2.some_slot (by rw [hz]; exact Nat.le_of_ble_eq_true rfl) (F 8 (by kernel_rfl) 11 rfl)
      clear F hF hz
      go_simp
      exact hK (.agg #[.string p, .string q, .string r]) _ hJ (Below.refl _ _) rfl
    refine Inv.from_skip _ _ _ _ rfl ?_
    exact Inv.from_end _ _ _ _ (by decide +kernel)
  · intro o ho a w hJ hF F K hK
    injection (show some _ = some o from ho) with ho
    subst ho
    obtain ⟨f, hf⟩ : ∃ f : Nat → Value, ∀ i, a.tmps.getD i undef = f i := ⟨_, fun _ => rfl⟩
    have g0 : f 0 = (.slice (some ⟨g, o, none⟩) 3 c) := (hf 0).symm.trans (hF.slot 0 (by kernel_rfl))
    have g2 : f 2 = (.pointer (some ⟨b, 0, none⟩)) := (hf 2).symm.trans (hF.slot 2 (by kernel_rfl))
    have g3 : f 3 = (.slice (some ⟨g, o, none⟩) 3 c) := (hf 3).symm.trans (F 0 (by decide) 3 rfl)
    have g4 : f 4 = (.pointer (some ⟨g, o, none⟩)) := (hf 4).symm.trans (F 1 (by decide) 4 rfl)
    have g5 : f 5 = (.string p) := (hf 5).symm.trans (F 2 (by decide) 5 rfl)
    have g6 : f 6 = (.slice (some ⟨g, o, none⟩) 3 c) := (hf 6).symm.trans (F 3 (by decide) 6 rfl)
    have g7 : f 7 = (.pointer (some ⟨g, o + 1, none⟩)) := (hf 7).symm.trans (F 4 (by decide) 7 rfl)
    have g8 : f 8 = (.string q) := (hf 8).symm.trans (F 5 (by decide) 8 rfl)
    have g9 : f 9 = (.slice (some ⟨g, o, none⟩) 3 c) := (hf 9).symm.trans (F 6 (by decide) 9 rfl)
    have g10 : f 10 = (.pointer (some ⟨g, o + 2, none⟩)) := (hf 10).symm.trans (F 7 (by decide) 10 rfl)
    have g11 : f 11 = (.string r) := (hf 11).symm.trans (F 8 (by decide) 11 rfl)
    have g12 : f 12 = (.agg #[.string p, .string q, .string r]) := (hf 12).symm.trans (F 9 (by decide) 12 rfl)
    have ha := Frames.frame (show a.tmps.size = 13 from hF.size) hF.defers hf (l := [f 0, f 1, f 2, f 3, f 4, f 5, f 6, f 7, f 8, f 9, f 10, f 11, f 12]) rfl
    simp only [g0, g2, g3, g4, g5, g6, g7, g8, g9, g10, g11, g12] at ha
    clear F hF hf g0 g2 g3 g4 g5 g6 g7 g8 g9 g10 g11 g12
    subst ha
    have ab := HA.out w hJ
    have f0 : w.frozen? ⟨b, 0, none⟩ = false := by simp [World.frozen?, ab]
    have f1 : w.frozen? ⟨b, 1, none⟩ = false := by simp [World.frozen?, ab]
    have f2 : w.frozen? ⟨b, 2, none⟩ = false := by simp [World.frozen?, ab]
    obtain ⟨c0, c1, c2⟩ := three_at ab
    have HAB := Lib.hid ab
    have HJ := Lib.hid hJ
    clear ab hJ
    go_simp
    refine hK _ _ ?_
    clear hK
    go_wp2_with fail
    refine bodyPost_ret (results_cell_row rfl _ _ b 23 _ (0, 0) _ rfl (set3 HAB.out _ _ _) Try.underlying23 rfl (by kernel_rfl)) rfl ?_
    exact ⟨rfl, below3 (HB1.out.trans (HJ.out.mono HB1.out.size)) HLE.out _ _ _⟩
  · intro hq; exact absurd hq (by decide +kernel)
end Go.Proofs.Ytpiojnphbanggaa.TupleKeyC
