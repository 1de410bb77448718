/- Tuples and users as texts, and read of texts: the code's Show, ReadUser, Read. -/
import Derived.Test.YtpiojnphbanggaaTupleCut
namespace Go.Proofs.Ytpiojnphbanggaa.TupleText
open Go.RowKit Base KeyPlain TuplePlain TupleRef TupleSpec TupleName TupleCut

theorem show_len (u : Us) (h : u.ok = true) : u.show.length ≤ 100 := by
  obtain ⟨a1, a2, a3⟩ := u.okE h
  have k1 := (name_len a1).2; have k2 := (id_len a2).2; have k3 := rel_len a3
  unfold Us.show
  split <;> simp only [List.length_append, List.length_cons, List.length_nil, bl_size] at * <;> omega
set_option maxRecDepth 100000 in
set_option maxHeartbeats 12800000 in
theorem show_any (t : Tp) (w : World) (ht : TpF t) :
    Calls Try.prog 13 #[.agg (tc t)] w fun e w' => e = .returned (.tuple #[okS t.ok t.show, okE t.ok 111]) ∧ Below w.heap.size w w' := by
  have h2 : UsF t.obj := ⟨ht.1, ht.2.1, ht.2.2.1⟩
  have H1 := Lib.hid (fun w => check_any t w ht)
  have HO := Lib.hid (fun w => object_any t w)
  have H2 := Lib.hid (fun w => text_any t.obj w h2)
  have H3 := Lib.hid (fun w => text_any t.u w ht.2.2.2)
  have HOK := Lib.hid (fun h => And.intro (show_len _ (t.obj_ok h)) (And.intro (show_len _ (t.okE h).2.2.2) (t.show_two h)))
  unfold okS
  unfold okE at H1 ⊢
  generalize t.ok = ok at *
  clear h2 ht
  unfold tc at H1 HO ⊢
  unfold uc at HO H2 H3
  obtain ⟨w1, hw1⟩ : ∃ v, v = w.alloc (.cells #[.string t.k, .string t.i, .string t.r, .string t.u.k, .string t.u.i, .string t.u.r] 25) := ⟨_, rfl⟩
  obtain ⟨b, hbe⟩ : ∃ v, v = w.heap.size := ⟨_, rfl⟩
  have HB1 := Lib.hid (show Below w.heap.size w w1 from by rw [hw1]; exact al _ _)
  have a1 : w1.heap[b]? = some (.cells #[.string t.k, .string t.i, .string t.r, .string t.u.k, .string t.u.i, .string t.u.r] 25 (0, 0)) := by rw [hw1, hbe]; exact heap_alloc_new w _
  have hl1 : b < w1.heap.size := by rw [hw1, hbe]; simp
  have HC := Lib.hid (fun (w' : World) (hw' : Below w1.heap.size w1 w') => six_at ((hw'.block b hl1).trans a1))
  have HD1 := Lib.hid (Below.refl w1.heap.size w1)
  have HW := Lib.hid hw1
  have HBE := Lib.hid hbe
  clear hw1 a1 hl1 hbe
  go_enter Try.func13, Try.ntmps13
  go_upto_region 1 with fail
  try rw [← HW.out]
  try rw [← HBE.out]
  clear HW
  have hh := H1.out w1
  obtain ⟨d0, d1, d2, d3, d4, d5⟩ := HC.out w1 HD1.out
  go_wp2_with fail
  (with_reducible refine hh.mono ?_)
  clear hh d0 d1 d2 d3 d4 d5
  rintro e w2 ⟨rfl, hb⟩
  have HD2 := Lib.hid (Below.step HD1.out hb)
  clear hb
  cases ok with
  | false =>
    go_wp2_with fail
    go_ret2
    exact ⟨rfl, HB1.out.trans (HD2.out.mono HB1.out.size)⟩
  | true =>
    obtain ⟨z1, z2, z3⟩ := HOK.out rfl
    obtain ⟨os, hos⟩ : ∃ v : ByteArray, v = ⟨t.obj.show.toArray⟩ := ⟨_, rfl⟩
    obtain ⟨us, hus⟩ : ∃ v : ByteArray, v = ⟨t.u.show.toArray⟩ := ⟨_, rfl⟩
    have y1 : os.size ≤ 100 := by rw [hos]; show t.obj.show.toArray.size ≤ _; rw [List.size_toArray]; exact z1
    have y2 : us.size ≤ 100 := by rw [hus]; show t.u.show.toArray.size ≤ _; rw [List.size_toArray]; exact z2
    obtain ⟨pa, hpa⟩ : ∃ s : ByteArray, s = os ++ ⟨#[64]⟩ := ⟨_, rfl⟩
    have y3 : pa.size ≤ 101 := by rw [hpa, ByteArray.size_append]; show os.size + 1 ≤ _; omega
    obtain ⟨pe, hpe⟩ : ∃ s : ByteArray, s = pa ++ us := ⟨_, rfl⟩
    have HS := Lib.hid (show pe = ⟨t.show.toArray⟩ from by rw [hpe, hpa, hos, hus]; exact ba_of (by simp [bl, z3]))
    have Hpa := Lib.hid hpa
    have Hpe := Lib.hid hpe
    rw [← hos] at H2
    rw [← hus] at H3
    clear z1 z2 z3 hos hus hpa hpe HOK H1
    go_upto_region 4 with fail
    have hJ0 : Below w2.heap.size w2 (World.drew w2) := (Below.refl _ _).drew
    refine wp_region_any (by kernel_rfl) ?_
    change wpAny _ _ _ _ _ _ _ (World.drew _)
    refine Inv.inv_any (fun (i : Nat) (v : Value) (w : World) => match i with | 0 => v = .agg #[.string t.k, .string t.i, .string t.r, .string t.u.k, .string t.u.i, .string t.u.r] | 1 => v = .agg #[.string t.obj.k, .string t.obj.i, .string t.obj.r] | 2 => v = .string os | 3 => v = .string pa | 4 => v = .pointer (some ⟨b, 3, none⟩) | 5 => v = .agg #[.string t.u.k, .string t.u.i, .string t.u.r] | 6 => v = .string us | 7 => v = .string pe | 8 => v = .string pe | 9 => v = .int .i64 0 | _ => True) (fun w' : World => Below w2.heap.size w2 w') _ 10 18 rfl rfl rfl (by kernel_rfl) (by kernel_rfl) hJ0 ?_ ?_ ?_ ?_
    · intro j v w w' h hb
      match j, h with
      | 0, h => exact h
      | 1, h => exact h
      | 2, h => exact h
      | 3, h => exact h
      | 4, h => exact h
      | 5, h => exact h
      | 6, h => exact h
      | 7, h => exact h
      | 8, h => exact h
      | 9, h => exact h
      | (_ + 10), _ => exact trivial
    · skip
      refine Inv.from_cons _ _ _ _ rfl (fun _ a w hJ hF F K hK => ?_) ?_
      · have hz : a.tmps.size = 18 := hF.size
        have e1 : a.tmps[1]? = some (.pointer (some ⟨b, 0, none⟩)) := Inv2.some_slot (by rw [hz]; exact Nat.le_of_ble_eq_true rfl) (hF.slot 1 (by kernel_rfl))
        clear F hF hz
        obtain ⟨d0, d1, d2, d3, d4, d5⟩ := HC.out _ (Below.step HD2.out hJ)
        go_simp
        exact hK (.agg #[.string t.k, .string t.i, .string t.r, .string t.u.k, .string t.u.i, .string t.u.r]) _ hJ (Below.refl _ _) rfl
      refine Inv.from_cons _ _ _ _ rfl (fun _ a w hJ hF F K hK => ?_) ?_
      · have hz : a.tmps.size = 18 := hF.size
        have e10 : a.tmps[10]? = some (.agg #[.string t.k, .string t.i, .string t.r, .string t.u.k, .string t.u.i, .string t.u.r]) := Inv2.some_slot (by rw [hz]; exact Nat.le_of_ble_eq_true rfl) (F 0 (by kernel_rfl) 10 rfl)
        clear F hF hz
        have hh := HO.out w
        go_simp
        (with_reducible refine hh.mono ?_)
        rintro e' w' ⟨rfl, hb⟩
        go_simp
        exact hK _ _ (Below.step hJ hb) hb rfl
      refine Inv.from_cons _ _ _ _ rfl (fun _ a w hJ hF F K hK => ?_) ?_
      · have hz : a.tmps.size = 18 := hF.size
        have e11 : a.tmps[11]? = some (.agg #[.string t.obj.k, .string t.obj.i, .string t.obj.r]) := Inv2.some_slot (by rw [hz]; exact Nat.le_of_ble_eq_true rfl) (F 1 (by kernel_rfl) 11 rfl)
        clear F hF hz
        have hh := H2.out w
        go_simp
        (with_reducible refine hh.mono ?_)
        rintro e' w' ⟨rfl, hb⟩
        go_simp
        exact hK _ _ (Below.step hJ hb) hb rfl
      refine Inv.from_cons _ _ _ _ rfl (fun _ a w hJ hF F K hK => ?_) ?_
      · have hz : a.tmps.size = 18 := hF.size
        have e12 : a.tmps[12]? = some (.string os) := Inv2.some_slot (by rw [hz]; exact Nat.le_of_ble_eq_true rfl) (F 2 (by kernel_rfl) 12 rfl)
        clear F hF hz
        go_simp
        rw [if_neg (by omega), ← Hpa.out]
        go_simp
        exact hK (.string pa) _ hJ (Below.refl _ _) rfl
      refine Inv.from_cons _ _ _ _ rfl (fun _ a w hJ hF F K hK => ?_) ?_
      · have hz : a.tmps.size = 18 := hF.size
        have e1 : a.tmps[1]? = some (.pointer (some ⟨b, 0, none⟩)) := Inv2.some_slot (by rw [hz]; exact Nat.le_of_ble_eq_true rfl) (hF.slot 1 (by kernel_rfl))
        clear F hF hz
        go_simp
        exact hK (.pointer (some ⟨b, 3, none⟩)) _ hJ (Below.refl _ _) rfl
      refine Inv.from_cons _ _ _ _ rfl (fun _ a w hJ hF F K hK => ?_) ?_
      · have hz : a.tmps.size = 18 := hF.size
        have e14 : a.tmps[14]? = some (.pointer (some ⟨b, 3, none⟩)) := Inv2.some_slot (by rw [hz]; exact Nat.le_of_ble_eq_true rfl) (F 4 (by kernel_rfl) 14 rfl)
        clear F hF hz
        obtain ⟨d0, d1, d2, d3, d4, d5⟩ := HC.out _ (Below.step HD2.out hJ)
        go_simp
        exact hK (.agg #[.string t.u.k, .string t.u.i, .string t.u.r]) _ hJ (Below.refl _ _) rfl
      refine Inv.from_cons _ _ _ _ rfl (fun _ a w hJ hF F K hK => ?_) ?_
      · have hz : a.tmps.size = 18 := hF.size
        have e12 : a.tmps[12]? = some (.string os) := Inv2.some_slot (by rw [hz]; exact Nat.le_of_ble_eq_true rfl) (F 2 (by kernel_rfl) 12 rfl)
        have e15 : a.tmps[15]? = some (.agg #[.string t.u.k, .string t.u.i, .string t.u.r]) := Inv2.some_slot (by rw [hz]; exact Nat.le_of_ble_eq_true rfl) (F 5 (by kernel_rfl) 15 rfl)
        clear F hF hz
        have hh := H3.out w
        go_simp
        (with_reducible refine hh.mono ?_)
        rintro e' w' ⟨rfl, hb⟩
        go_simp
        exact hK _ _ (Below.step hJ hb) hb rfl
      refine Inv.from_cons _ _ _ _ rfl (fun _ a w hJ hF F K hK => ?_) ?_
      · have hz : a.tmps.size = 18 := hF.size
        have e13 : a.tmps[13]? = some (.string pa) := Inv2.some_slot (by rw [hz]; exact Nat.le_of_ble_eq_true rfl) (F 3 (by kernel_rfl) 13 rfl)
        have e16 : a.tmps[16]? = some (.string us) := Inv2.some_slot (by rw [hz]; exact Nat.le_of_ble_eq_true rfl) (F 6 (by kernel_rfl) 16 rfl)
        clear F hF hz
        go_simp
        rw [if_neg (by omega), ← Hpe.out]
        go_simp
        exact hK (.string pe) _ hJ (Below.refl _ _) rfl
      refine Inv.from_cons _ _ _ _ rfl (fun _ a w hJ hF F K hK => ?_) ?_
      · have hz : a.tmps.size = 18 := hF.size
        have e10 : a.tmps[10]? = some (.agg #[.string t.k, .string t.i, .string t.r, .string t.u.k, .string t.u.i, .string t.u.r]) := Inv2.some_slot (by rw [hz]; exact Nat.le_of_ble_eq_true rfl) (F 0 (by kernel_rfl) 10 rfl)
        have e11 : a.tmps[11]? = some (.agg #[.string t.obj.k, .string t.obj.i, .string t.obj.r]) := Inv2.some_slot (by rw [hz]; exact Nat.le_of_ble_eq_true rfl) (F 1 (by kernel_rfl) 11 rfl)
        have e12 : a.tmps[12]? = some (.string os) := Inv2.some_slot (by rw [hz]; exact Nat.le_of_ble_eq_true rfl) (F 2 (by kernel_rfl) 12 rfl)
        have e13 : a.tmps[13]? = some (.string pa) := Inv2.some_slot (by rw [hz]; exact Nat.le_of_ble_eq_true rfl) (F 3 (by kernel_rfl) 13 rfl)
        have e14 : a.tmps[14]? = some (.pointer (some ⟨b, 3, none⟩)) := Inv2.some_slot (by rw [hz]; exact Nat.le_of_ble_eq_true rfl) (F 4 (by kernel_rfl) 14 rfl)
        have e15 : a.tmps[15]? = some (.agg #[.string t.u.k, .string t.u.i, .string t.u.r]) := Inv2.some_slot (by rw [hz]; exact Nat.le_of_ble_eq_true rfl) (F 5 (by kernel_rfl) 15 rfl)
        have e16 : a.tmps[16]? = some (.string us) := Inv2.some_slot (by rw [hz]; exact Nat.le_of_ble_eq_true rfl) (F 6 (by kernel_rfl) 16 rfl)
        have e17 : a.tmps[17]? = some (.string pe) := Inv2.some_slot (by rw [hz]; exact Nat.le_of_ble_eq_true rfl) (F 7 (by kernel_rfl) 17 rfl)
        clear F hF hz
        go_simp
        exact hK (.string pe) _ hJ (Below.refl _ _) rfl
      refine Inv.from_cons _ _ _ _ rfl (fun _ a w hJ hF F K hK => ?_) ?_
      · have hz : a.tmps.size = 18 := hF.size
        have e10 : a.tmps[10]? = some (.agg #[.string t.k, .string t.i, .string t.r, .string t.u.k, .string t.u.i, .string t.u.r]) := Inv2.some_slot (by rw [hz]; exact Nat.le_of_ble_eq_true rfl) (F 0 (by kernel_rfl) 10 rfl)
        have e11 : a.tmps[11]? = some (.agg #[.string t.obj.k, .string t.obj.i, .string t.obj.r]) := Inv2.some_slot (by rw [hz]; exact Nat.le_of_ble_eq_true rfl) (F 1 (by kernel_rfl) 11 rfl)
        have e12 : a.tmps[12]? = some (.string os) := Inv2.some_slot (by rw [hz]; exact Nat.le_of_ble_eq_true rfl) (F 2 (by kernel_rfl) 12 rfl)
        have e13 : a.tmps[13]? = some (.string pa) := Inv2.some_slot (by rw [hz]; exact Nat.le_of_ble_eq_true rfl) (F 3 (by kernel_rfl) 13 rfl)
        have e14 : a.tmps[14]? = some (.pointer (some ⟨b, 3, none⟩)) := Inv2.some_slot (by rw [hz]; exact Nat.le_of_ble_eq_true rfl) (F 4 (by kernel_rfl) 14 rfl)
        have e15 : a.tmps[15]? = some (.agg #[.string t.u.k, .string t.u.i, .string t.u.r]) := Inv2.some_slot (by rw [hz]; exact Nat.le_of_ble_eq_true rfl) (F 5 (by kernel_rfl) 15 rfl)
        have e16 : a.tmps[16]? = some (.string us) := Inv2.some_slot (by rw [hz]; exact Nat.le_of_ble_eq_true rfl) (F 6 (by kernel_rfl) 16 rfl)
        have e17 : a.tmps[17]? = some (.string pe) := Inv2.some_slot (by rw [hz]; exact Nat.le_of_ble_eq_true rfl) (F 7 (by kernel_rfl) 17 rfl)
        have e2 : a.tmps[2]? = some (.string pe) := Inv2.some_slot (by rw [hz]; exact Nat.le_of_ble_eq_true rfl) (F 8 (by kernel_rfl) 2 rfl)
        clear F hF hz
        go_simp
        exact hK (.int .i64 0) _ hJ (Below.refl _ _) rfl
      exact Inv.from_end _ _ _ _ (by decide +kernel)
    · intro o ho; exact absurd ho (by simp)
    · intro _ a w hJ hF F
      obtain ⟨f, hf⟩ : ∃ f : Nat → Value, ∀ i, a.tmps.getD i undef = f i := ⟨_, fun _ => rfl⟩
      have g1 : f 1 = (.pointer (some ⟨b, 0, none⟩)) := (hf 1).symm.trans (hF.slot 1 (by kernel_rfl))
      have g10 : f 10 = (.agg #[.string t.k, .string t.i, .string t.r, .string t.u.k, .string t.u.i, .string t.u.r]) := (hf 10).symm.trans (F 0 10 rfl)
      have g11 : f 11 = (.agg #[.string t.obj.k, .string t.obj.i, .string t.obj.r]) := (hf 11).symm.trans (F 1 11 rfl)
      have g12 : f 12 = (.string os) := (hf 12).symm.trans (F 2 12 rfl)
      have g13 : f 13 = (.string pa) := (hf 13).symm.trans (F 3 13 rfl)
      have g14 : f 14 = (.pointer (some ⟨b, 3, none⟩)) := (hf 14).symm.trans (F 4 14 rfl)
      have g15 : f 15 = (.agg #[.string t.u.k, .string t.u.i, .string t.u.r]) := (hf 15).symm.trans (F 5 15 rfl)
      have g16 : f 16 = (.string us) := (hf 16).symm.trans (F 6 16 rfl)
      have g17 : f 17 = (.string pe) := (hf 17).symm.trans (F 7 17 rfl)
      have g2 : f 2 = (.string pe) := (hf 2).symm.trans (F 8 2 rfl)
      have g3 : f 3 = (.int .i64 0) := (hf 3).symm.trans (F 9 3 rfl)
      have ha := Frames.frame (show a.tmps.size = 18 from hF.size) hF.defers hf (l := [f 0, f 1, f 2, f 3, f 4, f 5, f 6, f 7, f 8, f 9, f 10, f 11, f 12, f 13, f 14, f 15, f 16, f 17]) rfl
      simp only [g1, g10, g11, g12, g13, g14, g15, g16, g17, g2, g3] at ha
      clear F hF hf g1 g10 g11 g12 g13 g14 g15 g16 g17 g2 g3
      subst ha
      have HB := Lib.hid (HB1.out.trans ((Below.step HD2.out hJ).mono HB1.out.size))
      clear hJ
      go_wp2_with fail
      go_ret2
      exact ⟨by rw [HS.out]; rfl, HB.out⟩
theorem parse_one {s : List UInt8} {u v : Us} {x : List UInt8} (h1 : CutP 58 s (bl u.k) x) (h2 : CutP 35 x (bl u.i) (bl u.r)) (hv : v.ok = true) (hs : v.show = s) : v = u := by
  obtain ⟨a1, a2, a3⟩ := v.okE hv
  subst hs
  obtain ⟨e1, rfl⟩ := h1.has (name_odd a1 (Or.inl rfl))
  have h35 : Odd 35 := Or.inr (Or.inl rfl)
  have e2 : bl u.i = bl v.i ∧ bl u.r = bl v.r := by
    by_cases hz : v.r.size = 0
    · rw [if_pos hz, List.append_nil] at h2
      obtain ⟨e2, e3⟩ := h2.hasnt (id_odd a2 h35)
      exact ⟨e2, by rw [e3, size_zero hz]⟩
    · rw [if_neg hz] at h2
      exact h2.has (id_odd a2 h35)
  obtain ⟨k, i, r⟩ := u
  obtain ⟨k', i', r'⟩ := v
  simp only [Us.mk.injEq]
  exact ⟨(ba_of e1).symm, (ba_of e2.1).symm, (ba_of e2.2).symm⟩
theorem parse_rdu {s x : List UInt8} {u : Us} (h1 : CutP 58 s (bl u.k) x) (h2 : CutP 35 x (bl u.i) (bl u.r)) (hn : u.ok = true → u.show ≠ s) : RdU s none := fun v hv hs => by
  have e := parse_one h1 h2 hv hs
  subst e
  exact hn hv hs
theorem parse_usf {s x : ByteArray} {u : Us} (h1 : CutP 58 (bl s) (bl u.k) (bl x)) (h2 : CutP 35 (bl x) (bl u.i) (bl u.r)) (hs : s.size ≤ 1000000) : UsF u := by
  have a := h1.len
  have b := h2.len
  simp only [bl_size] at a b
  exact ⟨by omega, by omega, by omega⟩
def RuPost (s : ByteArray) (w : World) (e : Ending) (w' : World) : Prop := ∃ o, RdU (bl s) o ∧ e = .returned (.tuple #[.agg (uc (o.getD zus)), okE o.isSome 110]) ∧ Below w.heap.size w w'
theorem ru_no {s : ByteArray} {w w' : World} (h : RdU (bl s) none) (hb : Below w.heap.size w w') : RuPost s w (.returned (.tuple #[.agg #[.string ⟨#[]⟩, .string ⟨#[]⟩, .string ⟨#[]⟩], .int .i64 110])) w' := ⟨none, h, rfl, hb⟩
theorem ru_yes {s : ByteArray} {w w' : World} {u : Us} (h : u.ok = true) (hs : u.show = bl s) (hb : Below w.heap.size w w') : RuPost s w (.returned (.tuple #[.agg #[.string u.k, .string u.i, .string u.r], .int .i64 0])) w' := ⟨some u, ⟨h, hs⟩, rfl, hb⟩
set_option maxRecDepth 100000 in
set_option maxHeartbeats 12800000 in
theorem readUser_any (s : ByteArray) (w : World) (hs : s.size ≤ 1000000) :
    Calls Try.prog 17 #[.string s] w (RuPost s w) := by
  have H1 := Lib.hid (fun w => parse_any s w hs)
  have H2 := Lib.hid (fun u hu w => showUser_any u w hu)
  unfold okS okE uc at H2
  obtain ⟨w1, hw1⟩ : ∃ v, v = w.alloc (.cells #[.string ⟨#[]⟩, .string ⟨#[]⟩, .string ⟨#[]⟩] 23) := ⟨_, rfl⟩
  obtain ⟨b, hbe⟩ : ∃ v, v = w.heap.size := ⟨_, rfl⟩
  have HB1 := Lib.hid (show Below w.heap.size w w1 from by rw [hw1]; exact al _ _)
  have a1 : w1.heap[b]? = some (.cells #[.string ⟨#[]⟩, .string ⟨#[]⟩, .string ⟨#[]⟩] 23 (0, 0)) := by rw [hw1, hbe]; exact heap_alloc_new w _
  have hl1 : b < w1.heap.size := by rw [hw1, hbe]; simp
  have HA := Lib.hid (fun (w' : World) (hw' : Below w1.heap.size w1 w') => (hw'.block b hl1).trans a1)
  have HC := Lib.hid (fun (w' : World) (hw' : Below w1.heap.size w1 w') => three_at ((hw'.block b hl1).trans a1))
  have HD1 := Lib.hid (Below.refl w1.heap.size w1)
  have HW := Lib.hid hw1
  have HLE := Lib.hid (show w.heap.size ≤ b from by rw [hbe]; exact Nat.le_refl _)
  have HBE := Lib.hid hbe
  clear hw1 a1 hl1 hbe
  have HSZ := Lib.hid hs
  clear hs
  go_enter Try.func17, Try.ntmps17
  go_upto_region 1 with fail
  try rw [← HW.out]
  try rw [← HBE.out]
  clear HW
  have hh := H1.out w1
  go_wp2_with fail
  (with_reducible refine hh.mono ?_)
  clear hh
  rintro e w2 ⟨u, x, hp, hq, rfl, hb⟩
  have HD2 := Lib.hid (Below.step HD1.out hb)
  have hh := H2.out u (parse_usf hp hq HSZ.out)
  have HP := Lib.hid (fun h => parse_rdu hp hq h)
  have HSH := Lib.hid (fun a b c => ru_yes (s := s) (w := w) (u := u) a b (w' := c))
  unfold uc
  clear hb hp hq
  obtain ⟨w3, hw⟩ : ∃ v, v = w2.alloc (.cells #[.string u.k, .string u.i, .string u.r] 23) := ⟨_, rfl⟩
  obtain ⟨g, hg⟩ : ∃ v, v = w2.heap.size := ⟨_, rfl⟩
  have bb : Below w2.heap.size w2 w3 := by rw [hw]; exact al _ _
  have ag : w3.heap[g]? = some (.cells #[.string u.k, .string u.i, .string u.r] 23 (0, 0)) := by rw [hw, hg]; exact heap_alloc_new w2 _
  have hlg : g < w3.heap.size := by rw [hw, hg]; simp
  have HG := Lib.hid (fun (w' : World) (hw' : Below w3.heap.size w3 w') => three_at ((hw'.block g hlg).trans ag))
  have HD3 := Lib.hid (Below.step HD2.out bb)
  have HW := Lib.hid hw
  have HGE := Lib.hid hg
  clear hw hg bb ag hlg
  go_upto_region 2 with fail
  try rw [← HW.out]
  try rw [← HGE.out]
  clear HW
  have hh := hh w3
  obtain ⟨d0, d1, d2⟩ := HG.out w3 (Below.refl _ _)
  obtain ⟨ok, hok⟩ : ∃ v, u.ok = v := ⟨_, rfl⟩
  rw [hok] at hh
  have HOK := Lib.hid hok
  clear hok
  go_wp2_with fail
  (with_reducible refine hh.mono ?_)
  clear hh d0 d1 d2
  rintro e w4 ⟨rfl, hb⟩
  have HD4 := Lib.hid (Below.step HD3.out hb)
  have hb9 := hb
  clear hb
  cases ok with
  | false =>
    have HR := Lib.hid (HP.out fun h => absurd h (by rw [HOK.out]; decide))
    have ab := HA.out w4 HD4.out
    have f0 : w4.frozen? ⟨b, 0, none⟩ = false := by simp [World.frozen?, ab]
    have f1 : w4.frozen? ⟨b, 1, none⟩ = false := by simp [World.frozen?, ab]
    have f2 : w4.frozen? ⟨b, 2, none⟩ = false := by simp [World.frozen?, ab]
    have HAB := Lib.hid ab
    obtain ⟨c0, c1, c2⟩ := HC.out w4 HD4.out
    clear ab
    go_wp2_with fail
    refine bodyPost_ret (results_cell_tmp_row rfl _ _ b 23 _ (0, 0) _ rfl (set3 HAB.out _ _ _ ) Try.underlying23 rfl (by kernel_rfl)) rfl ?_
    exact ru_no HR.out (below3 (HB1.out.trans (HD4.out.mono HB1.out.size)) HLE.out _ _ _ )
  | true =>
    obtain ⟨sh, hsh⟩ : ∃ v : ByteArray, v = ⟨u.show.toArray⟩ := ⟨_, rfl⟩
    have hq : (sh.toList == s.toList) = decide (sh = s) := Str.ba_beq sh s
    simp only [if_true, ← hsh]
    have HSHE := Lib.hid hsh
    clear hsh
    by_cases he : sh = s
    · rw [decide_eq_true he] at hq
      have HE := Lib.hid (show u.show = bl s from by rw [← he, HSHE.out])
      clear he
      have ab := HA.out w4 HD4.out
      have f0 : w4.frozen? ⟨b, 0, none⟩ = false := by simp [World.frozen?, ab]
      have f1 : w4.frozen? ⟨b, 1, none⟩ = false := by simp [World.frozen?, ab]
      have f2 : w4.frozen? ⟨b, 2, none⟩ = false := by simp [World.frozen?, ab]
      have HAB := Lib.hid ab
      obtain ⟨c0, c1, c2⟩ := HC.out w4 HD4.out
      obtain ⟨d0, d1, d2⟩ := HG.out w4 hb9
      clear ab
      go_wp2_with fail
      refine bodyPost_ret (results_cell_tmp_row rfl _ _ b 23 _ (0, 0) _ rfl (set3 HAB.out _ _ _ ) Try.underlying23 rfl (by kernel_rfl)) rfl ?_
      exact ru_yes HOK.out HE.out (below3 (HB1.out.trans (HD4.out.mono HB1.out.size)) HLE.out _ _ _ )
    · rw [decide_eq_false he] at hq
      have HR := Lib.hid (HP.out fun _ h => he (by rw [HSHE.out]; exact ba_of (show u.show.toArray.toList = bl s from by rw [h])))
      clear he
      have ab := HA.out w4 HD4.out
      have f0 : w4.frozen? ⟨b, 0, none⟩ = false := by simp [World.frozen?, ab]
      have f1 : w4.frozen? ⟨b, 1, none⟩ = false := by simp [World.frozen?, ab]
      have f2 : w4.frozen? ⟨b, 2, none⟩ = false := by simp [World.frozen?, ab]
      have HAB := Lib.hid ab
      obtain ⟨c0, c1, c2⟩ := HC.out w4 HD4.out
      clear ab
      go_wp2_with fail
      refine bodyPost_ret (results_cell_tmp_row rfl _ _ b 23 _ (0, 0) _ rfl (set3 HAB.out _ _ _ ) Try.underlying23 rfl (by kernel_rfl)) rfl ?_
      exact ru_no HR.out (below3 (HB1.out.trans (HD4.out.mono HB1.out.size)) HLE.out _ _ _ )
theorem read_one {s a b x y : List UInt8} {o u : Us} {v : Tp} (h : CutP 64 s a b) (h1 : CutP 58 a (bl o.k) x) (h2 : CutP 35 x (bl o.i) (bl o.r)) (h3 : CutP 58 b (bl u.k) y) (h4 : CutP 35 y (bl u.i) (bl u.r)) (hv : v.ok = true) (hs : v.show = s) : v = ⟨o.k, o.i, o.r, u⟩ := by
  subst hs
  rw [v.show_two hv] at h
  have h64 : Odd 64 := Or.inr (Or.inr (Or.inl rfl))
  obtain ⟨c1, c2, c3⟩ := Us.okE (v.obj_ok hv)
  obtain ⟨e1, e2⟩ := h.has (show (64 : UInt8) ∉ v.obj.show from by
    intro hm
    simp only [Us.show, List.mem_append, List.mem_cons] at hm
    rcases hm with hm | hm | hm | hm
    · exact name_odd c1 h64 hm
    · exact absurd hm (by decide)
    · exact id_odd c2 h64 hm
    · split at hm
      · cases hm
      · rcases List.mem_cons.1 hm with hm | hm
        · exact absurd hm (by decide)
        · exact rel_odd c3 h64 hm)
  have e3 := parse_one h1 h2 (v.obj_ok hv) e1.symm
  have e4 := parse_one h3 h4 (v.okE hv).2.2.2 e2.symm
  obtain ⟨k, i, r, z⟩ := v
  subst e3
  simp only [Tp.mk.injEq]
  exact ⟨rfl, rfl, rfl, e4⟩
def RtPost (s : ByteArray) (w : World) (e : Ending) (w' : World) : Prop := ∃ o, RdT (bl s) o ∧ e = .returned (.tuple #[.agg (tc (o.getD ztp)), okE o.isSome 110]) ∧ Below w.heap.size w w'
theorem rt_no {s : ByteArray} {w w' : World} (h : RdT (bl s) none) (hb : Below w.heap.size w w') : RtPost s w (.returned (.tuple #[.agg #[.string ⟨#[]⟩, .string ⟨#[]⟩, .string ⟨#[]⟩, .string ⟨#[]⟩, .string ⟨#[]⟩, .string ⟨#[]⟩], .int .i64 110])) w' := ⟨none, h, rfl, hb⟩
theorem rt_yes {s : ByteArray} {w w' : World} {t : Tp} (h : t.ok = true) (hs : t.show = bl s) (hb : Below w.heap.size w w') : RtPost s w (.returned (.tuple #[.agg #[.string t.k, .string t.i, .string t.r, .string t.u.k, .string t.u.i, .string t.u.r], .int .i64 0])) w' := ⟨some t, ⟨h, hs⟩, rfl, hb⟩
set_option maxRecDepth 100000 in
set_option maxHeartbeats 12800000 in
theorem read_any (s : ByteArray) (w : World) (hs : s.size ≤ 1000000) :
    Calls Try.prog 20 #[.string s] w (RtPost s w) := by
  have H0 := Lib.hid (fun w => cut_any s ⟨#[64]⟩ 64 w hs rfl)
  have H1 := Lib.hid (fun x hx w => parse_any x w hx)
  have HO := Lib.hid (fun o u w => of_any o u w)
  have H2 := Lib.hid (fun t ht w => show_any t w ht)
  unfold okS okE tc at H2
  unfold tc uc at HO
  obtain ⟨w1, hw1⟩ : ∃ v, v = w.alloc (.cells #[.string ⟨#[]⟩, .string ⟨#[]⟩, .string ⟨#[]⟩, .string ⟨#[]⟩, .string ⟨#[]⟩, .string ⟨#[]⟩] 25) := ⟨_, rfl⟩
  obtain ⟨b, hbe⟩ : ∃ v, v = w.heap.size := ⟨_, rfl⟩
  have HB1 := Lib.hid (show Below w.heap.size w w1 from by rw [hw1]; exact al _ _)
  have a1 : w1.heap[b]? = some (.cells #[.string ⟨#[]⟩, .string ⟨#[]⟩, .string ⟨#[]⟩, .string ⟨#[]⟩, .string ⟨#[]⟩, .string ⟨#[]⟩] 25 (0, 0)) := by rw [hw1, hbe]; exact heap_alloc_new w _
  have hl1 : b < w1.heap.size := by rw [hw1, hbe]; simp
  have HA := Lib.hid (fun (w' : World) (hw' : Below w1.heap.size w1 w') => (hw'.block b hl1).trans a1)
  have HC := Lib.hid (fun (w' : World) (hw' : Below w1.heap.size w1 w') => six_at ((hw'.block b hl1).trans a1))
  have HD1 := Lib.hid (Below.refl w1.heap.size w1)
  have HW := Lib.hid hw1
  have HLE := Lib.hid (show w.heap.size ≤ b from by rw [hbe]; exact Nat.le_refl _)
  have HBE := Lib.hid hbe
  clear hw1 a1 hl1 hbe
  have HSZ := Lib.hid hs
  clear hs
  go_enter Try.func20, Try.ntmps20
  go_upto_region 1 with fail
  try rw [← HW.out]
  try rw [← HBE.out]
  clear HW
  have hh := H0.out w1
  go_wp2_with fail
  (with_reducible refine hh.mono ?_)
  clear hh
  rintro e w2 ⟨sa, sb, sf, hp, rfl, hb⟩
  have HD2 := Lib.hid (Below.step HD1.out hb)
  have HCT := Lib.hid hp
  have hl := hp.len
  simp only [bl_size] at hl
  have HLA := Lib.hid (Nat.le_trans hl.1 HSZ.out)
  have HLB := Lib.hid (Nat.le_trans hl.2 HSZ.out)
  clear hp hb hl
  have hh := H1.out sa HLA.out w2
  go_wp2_with fail
  (with_reducible refine hh.mono ?_)
  clear hh
  rintro e w3 ⟨o, x, hp, hq, rfl, hb⟩
  have HD3 := Lib.hid (Below.step HD2.out hb)
  have HPO := Lib.hid (And.intro hp hq)
  clear hp hq hb
  have hh := H1.out sb HLB.out w3
  go_wp2_with fail
  (with_reducible refine hh.mono ?_)
  clear hh
  rintro e w4 ⟨u, y, hp, hq, rfl, hb⟩
  have HD4 := Lib.hid (Below.step HD3.out hb)
  have HPU := Lib.hid (And.intro hp hq)
  clear hp hq hb
  unfold uc
  have hh := HO.out o u w4
  go_wp2_with fail
  (with_reducible refine hh.mono ?_)
  clear hh
  rintro e w5 ⟨rfl, hb⟩
  have HD5 := Lib.hid (Below.step HD4.out hb)
  clear hb
  have ho := parse_usf HPO.out.1 HPO.out.2 HLA.out
  have hu := parse_usf HPU.out.1 HPU.out.2 HLB.out
  obtain ⟨t, ht⟩ : ∃ t : Tp, t = ⟨o.k, o.i, o.r, u⟩ := ⟨_, rfl⟩
  have hh := H2.out t (by rw [ht]; exact ⟨ho.1, ho.2.1, ho.2.2, hu⟩)
  have HP := Lib.hid (show (t.ok = true → t.show ≠ bl s) → RdT (bl s) none from fun hn v hv hs => by
    have e := (read_one HCT.out HPO.out.1 HPO.out.2 HPU.out.1 HPU.out.2 hv hs).trans ht.symm
    subst e
    exact hn hv hs)
  have e1 : o.k = t.k := by rw [ht]
  have e2 : o.i = t.i := by rw [ht]
  have e3 : o.r = t.r := by rw [ht]
  have e4 : u = t.u := by rw [ht]
  simp only [e1, e2, e3, e4]
  clear e1 e2 e3 e4 ht ho hu HPO HPU HCT
  obtain ⟨w6, hw⟩ : ∃ v, v = w5.alloc (.cells #[.string t.k, .string t.i, .string t.r, .string t.u.k, .string t.u.i, .string t.u.r] 25) := ⟨_, rfl⟩
  obtain ⟨g, hg⟩ : ∃ v, v = w5.heap.size := ⟨_, rfl⟩
  have bb : Below w5.heap.size w5 w6 := by rw [hw]; exact al _ _
  have ag : w6.heap[g]? = some (.cells #[.string t.k, .string t.i, .string t.r, .string t.u.k, .string t.u.i, .string t.u.r] 25 (0, 0)) := by rw [hw, hg]; exact heap_alloc_new w5 _
  have hlg : g < w6.heap.size := by rw [hw, hg]; simp
  have HG := Lib.hid (fun (w' : World) (hw' : Below w6.heap.size w6 w') => six_at ((hw'.block g hlg).trans ag))
  have HD6 := Lib.hid (Below.step HD5.out bb)
  have HW := Lib.hid hw
  have HGE := Lib.hid hg
  clear hw hg bb ag hlg
  go_upto_region 3 with fail
  try rw [← HW.out]
  try rw [← HGE.out]
  clear HW
  have hh := hh w6
  obtain ⟨d0, d1, d2, d3, d4, d5⟩ := HG.out w6 (Below.refl _ _)
  obtain ⟨ok, hok⟩ : ∃ v, t.ok = v := ⟨_, rfl⟩
  rw [hok] at hh
  have HOK := Lib.hid hok
  clear hok
  go_wp2_with fail
  (with_reducible refine hh.mono ?_)
  clear hh d0 d1 d2 d3 d4 d5
  rintro e w7 ⟨rfl, hb⟩
  have HD7 := Lib.hid (Below.step HD6.out hb)
  have hb9 := hb
  clear hb
  cases ok with
  | false =>
    have HR := Lib.hid (HP.out fun h => absurd h (by rw [HOK.out]; decide))
    have ab := HA.out w7 HD7.out
    have f0 : w7.frozen? ⟨b, 0, none⟩ = false := by simp [World.frozen?, ab]
    have f1 : w7.frozen? ⟨b, 1, none⟩ = false := by simp [World.frozen?, ab]
    have f2 : w7.frozen? ⟨b, 2, none⟩ = false := by simp [World.frozen?, ab]
    have f3 : w7.frozen? ⟨b, 3, none⟩ = false := by simp [World.frozen?, ab]
    have f4 : w7.frozen? ⟨b, 4, none⟩ = false := by simp [World.frozen?, ab]
    have f5 : w7.frozen? ⟨b, 5, none⟩ = false := by simp [World.frozen?, ab]
    have HAB := Lib.hid ab
    obtain ⟨c0, c1, c2, c3, c4, c5⟩ := HC.out w7 HD7.out
    clear ab
    go_wp2_with fail
    refine bodyPost_ret (results_cell_tmp_row rfl _ _ b 25 _ (0, 0) _ rfl (set6 HAB.out _ _ _ _ _ _ ) Try.underlying25 rfl (by kernel_rfl)) rfl ?_
    exact rt_no HR.out (below6 (HB1.out.trans (HD7.out.mono HB1.out.size)) HLE.out _ _ _ _ _ _ )
  | true =>
    obtain ⟨sh, hsh⟩ : ∃ v : ByteArray, v = ⟨t.show.toArray⟩ := ⟨_, rfl⟩
    have hq : (sh.toList == s.toList) = decide (sh = s) := Str.ba_beq sh s
    simp only [if_true, ← hsh]
    have HSHE := Lib.hid hsh
    clear hsh
    by_cases he : sh = s
    · rw [decide_eq_true he] at hq
      have HE := Lib.hid (show t.show = bl s from by rw [← he, HSHE.out])
      clear he
      have ab := HA.out w7 HD7.out
      have f0 : w7.frozen? ⟨b, 0, none⟩ = false := by simp [World.frozen?, ab]
      have f1 : w7.frozen? ⟨b, 1, none⟩ = false := by simp [World.frozen?, ab]
      have f2 : w7.frozen? ⟨b, 2, none⟩ = false := by simp [World.frozen?, ab]
      have f3 : w7.frozen? ⟨b, 3, none⟩ = false := by simp [World.frozen?, ab]
      have f4 : w7.frozen? ⟨b, 4, none⟩ = false := by simp [World.frozen?, ab]
      have f5 : w7.frozen? ⟨b, 5, none⟩ = false := by simp [World.frozen?, ab]
      have HAB := Lib.hid ab
      obtain ⟨c0, c1, c2, c3, c4, c5⟩ := HC.out w7 HD7.out
      obtain ⟨d0, d1, d2, d3, d4, d5⟩ := HG.out w7 hb9
      clear ab
      go_wp2_with fail
      refine bodyPost_ret (results_cell_tmp_row rfl _ _ b 25 _ (0, 0) _ rfl (set6 HAB.out _ _ _ _ _ _ ) Try.underlying25 rfl (by kernel_rfl)) rfl ?_
      exact rt_yes HOK.out HE.out (below6 (HB1.out.trans (HD7.out.mono HB1.out.size)) HLE.out _ _ _ _ _ _ )
    · rw [decide_eq_false he] at hq
      have HR := Lib.hid (HP.out fun _ h => he (by rw [HSHE.out]; exact ba_of (show t.show.toArray.toList = bl s from by rw [h])))
      clear he
      have ab := HA.out w7 HD7.out
      have f0 : w7.frozen? ⟨b, 0, none⟩ = false := by simp [World.frozen?, ab]
      have f1 : w7.frozen? ⟨b, 1, none⟩ = false := by simp [World.frozen?, ab]
      have f2 : w7.frozen? ⟨b, 2, none⟩ = false := by simp [World.frozen?, ab]
      have f3 : w7.frozen? ⟨b, 3, none⟩ = false := by simp [World.frozen?, ab]
      have f4 : w7.frozen? ⟨b, 4, none⟩ = false := by simp [World.frozen?, ab]
      have f5 : w7.frozen? ⟨b, 5, none⟩ = false := by simp [World.frozen?, ab]
      have HAB := Lib.hid ab
      obtain ⟨c0, c1, c2, c3, c4, c5⟩ := HC.out w7 HD7.out
      clear ab
      go_wp2_with fail
      refine bodyPost_ret (results_cell_tmp_row rfl _ _ b 25 _ (0, 0) _ rfl (set6 HAB.out _ _ _ _ _ _ ) Try.underlying25 rfl (by kernel_rfl)) rfl ?_
      exact rt_no HR.out (below6 (HB1.out.trans (HD7.out.mono HB1.out.size)) HLE.out _ _ _ _ _ _ )
end Go.Proofs.Ytpiojnphbanggaa.TupleText
