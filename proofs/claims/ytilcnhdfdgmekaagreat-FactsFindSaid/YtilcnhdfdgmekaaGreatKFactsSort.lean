/- FactsLess, FactsSort. -/
import Derived.Test.YtilcnhdfdgmekaaGreatKFactsEach
import Derived.Test.YtilcnhdfdgmekaaGreatKFrames
import Derived.Test.YtilcnhdfdgmekaaGreatKInvT
import Derived.Test.YtilcnhdfdgmekaaGreatKSortSlice
namespace Go.Proofs.YtilcnhdfdgmekaaGreat.FactsLess
open Go.RowKit Base KeyPlain TuplePlain TupleRef TupleSpec TupleCut TupleKeyC FMap FactsPlain FactsMem FactsNew SortSlice
open Go.Sort (HoldsK)

instance : Inhabited Tp := ⟨⟨⟨#[]⟩, ⟨#[]⟩, ⟨#[]⟩, ⟨⟨#[]⟩, ⟨#[]⟩, ⟨#[]⟩⟩⟩⟩
instance : Inhabited Us := ⟨⟨⟨#[]⟩, ⟨#[]⟩, ⟨#[]⟩⟩⟩
abbrev encT (t : Tp) : List Value := (tc t).toList
abbrev encU (u : Us) : List Value := (uc u).toList
theorem swo_of {α : Type} {lt : α → α → Bool} (h : Ord lt) : Go.Sort.SWO lt where
  irrefl := h.irr
  trans := h.tra
  ntrans a b c h1 h2 := by
    cases h3 : lt a c with
    | false => rfl
    | true =>
      exfalso
      cases h4 : lt b a with
      | true => rw [h.tra _ _ _ h4 h3] at h2; cases h2
      | false => rw [h.tot a b h1 h4, h2] at h3; cases h3
noncomputable def tIi : TypeInfo := (Tryz.prog.info? 22).get (by kernel_rfl)
noncomputable def tIe : TypeInfo := (Tryz.prog.info? 32).get (by kernel_rfl)
theorem tIk (n : Nat) (h2 : 2 ≤ n) : Lib.swapperK n tIe 25 = 9 := by
  have a : tIe.hasPointers = true := by kernel_rfl
  have b : (tIe.bytes == 8) = false := by kernel_rfl
  have c : (n == 0) = false := by simp; omega
  have d : (n == 1) = false := by simp; omega
  simp [Lib.swapperK, a, b, c, d]
theorem tIk1 (n : Nat) (h2 : n ≤ 1) : Lib.swapperK n tIe 25 = 1 ∨ Lib.swapperK n tIe 25 = 2 := by
  rcases (by omega : n = 0 ∨ n = 1) with rfl | rfl
  · exact .inl rfl
  · exact .inr rfl
theorem tI_sl : SlT 22 32 encT 6 where
  ex := ⟨tIi, tIe, 25, 96, false, by kernel_rfl, by kernel_rfl, by kernel_rfl, by kernel_rfl, fun _ => by kernel_rfl, by kernel_rfl, fun _ => by kernel_rfl, fun n h => by rw [tIk n h]; kernel_rfl, fun n h => by
    rcases tIk1 n h with e | e
    · exact ⟨88, by rw [e]; kernel_rfl⟩
    · exact ⟨89, by rw [e]; kernel_rfl⟩, fun args W => run_callFunc_extern Tryz.func96 (by kernel_rfl) (by kernel_rfl) (by kernel_rfl) (e := Extern.ReflectliteSwapper.swap false) (by kernel_rfl) args W⟩
  len := fun _ => rfl
  one := fun x v hv => by simp [encT, tc] at hv; rcases hv with rfl | rfl | rfl | rfl | rfl | rfl <;> rfl
noncomputable def uIi : TypeInfo := (Tryz.prog.info? 47).get (by kernel_rfl)
noncomputable def uIe : TypeInfo := (Tryz.prog.info? 30).get (by kernel_rfl)
theorem uIk (n : Nat) (h2 : 2 ≤ n) : Lib.swapperK n uIe 25 = 9 := by
  have a : uIe.hasPointers = true := by kernel_rfl
  have b : (uIe.bytes == 8) = false := by kernel_rfl
  have c : (n == 0) = false := by simp; omega
  have d : (n == 1) = false := by simp; omega
  simp [Lib.swapperK, a, b, c, d]
theorem uIk1 (n : Nat) (h2 : n ≤ 1) : Lib.swapperK n uIe 25 = 1 ∨ Lib.swapperK n uIe 25 = 2 := by
  rcases (by omega : n = 0 ∨ n = 1) with rfl | rfl
  · exact .inl rfl
  · exact .inr rfl
theorem uI_sl : SlT 47 30 encU 3 where
  ex := ⟨uIi, uIe, 25, 96, false, by kernel_rfl, by kernel_rfl, by kernel_rfl, by kernel_rfl, fun _ => by kernel_rfl, by kernel_rfl, fun _ => by kernel_rfl, fun n h => by rw [uIk n h]; kernel_rfl, fun n h => by
    rcases uIk1 n h with e | e
    · exact ⟨88, by rw [e]; kernel_rfl⟩
    · exact ⟨89, by rw [e]; kernel_rfl⟩, fun args W => run_callFunc_extern Tryz.func96 (by kernel_rfl) (by kernel_rfl) (by kernel_rfl) (e := Extern.ReflectliteSwapper.swap false) (by kernel_rfl) args W⟩
  len := fun _ => rfl
  one := fun x v hv => by simp [encU, uc] at hv; rcases hv with rfl | rfl | rfl <;> rfl
set_option maxRecDepth 100000 in
set_option maxHeartbeats 12800000 in
theorem tless_any {w0 : World} {bx bk n c p m : Nat} {t s : Tp} (hx : w0.cell? ⟨bx, 0, none⟩ = some (.slice (some ⟨bk, 0, none⟩) n c)) (hbx : bx < w0.heap.size) (hbk : bk < w0.heap.size) (hp : p < n) (hm : m < n)
    (ht : ∀ j v, (tc t).toList[j]? = some v → w0.cell? ⟨bk, 0 + p * 6 + j, none⟩ = some v) (hs : ∀ j v, (tc s).toList[j]? = some v → w0.cell? ⟨bk, 0 + m * 6 + j, none⟩ = some v) :
    Calls Tryz.prog 58 #[.int .i64 p, .int .i64 m, .pointer (some ⟨bx, 0, none⟩)] w0 fun e w' => e = .returned (.bool (ltT t s)) ∧ Below w0.heap.size w0 w' := by
  have HX := Lib.hid (fun (w' : World) (hw' : Below w0.heap.size w0 w') => (World.cell?_of_block (w := w0) (hw'.block bx hbx)).trans hx)
  have HP := Lib.hid (fun w' => idx_tp (c := c) (A := some ⟨bk, 0, none⟩) rfl hp w')
  have HM := Lib.hid (fun w' => idx_tp (c := c) (A := some ⟨bk, 0, none⟩) rfl hm w')
  have HT := Lib.hid (fun (w' : World) (hw' : Below w0.heap.size w0 w') => six_of (w := w') fun j v hv => (World.cell?_of_block (w := w0) (hw'.block bk hbk)).trans (ht j v hv))
  have HS := Lib.hid (fun (w' : World) (hw' : Below w0.heap.size w0 w') => six_of (w := w') fun j v hv => (World.cell?_of_block (w := w0) (hw'.block bk hbk)).trans (hs j v hv))
  have HL := Lib.hid (fun w' => less_any t s w')
  have HB1 := Lib.hid (Below.refl w0.heap.size w0)
  generalize 0 + p * 6 = ot at HP HT
  generalize 0 + m * 6 = os at HM HS
  generalize hxe : ltT t s = x
  unfold ltT at hxe
  rw [hxe] at HL
  clear hxe ht hs hx hbx hbk hp hm
  unfold tc at HL
  go_enter Tryz.func58, Tryz.ntmps58
  go_upto_region 1 with fail
  have hJ0 : Below w0.heap.size w0 (World.drew w0) := (Below.refl _ _).drew
  refine wp_region_any (by kernel_rfl) ?_
  change wpAny _ _ _ _ _ _ _ (World.drew _)
  refine Inv.inv_any (fun (i : Nat) (v : Value) (w : World) => match i with | 0 => v = .slice (some ⟨bk, 0, none⟩) n c | 1 => v = .int .i64 p | 2 => v = .pointer (some ⟨bk, ot, none⟩) | 3 => v = .agg #[.string t.k, .string t.i, .string t.r, .string t.u.k, .string t.u.i, .string t.u.r] | 4 => v = .slice (some ⟨bk, 0, none⟩) n c | 5 => v = .int .i64 m | 6 => v = .pointer (some ⟨bk, os, none⟩) | 7 => v = .agg #[.string s.k, .string s.i, .string s.r, .string s.u.k, .string s.u.i, .string s.u.r] | 8 => v = .bool x | 9 => v = .bool x | _ => True) (fun w' : World => Below w0.heap.size w0 w') _ 9 15 rfl rfl rfl (by kernel_rfl) (by kernel_rfl) hJ0 ?_ ?_ ?_ ?_
  · intro j v w w' h hb
    match j, h with
    | 0, h => exact h
    | 1, h => exact h
    | 2, h => exact h
    | 3, h => exact h
    | 4, h => exact h
    | 5, h => exact h
    | 6, h => exact h
    | 7, h => exact h
    | 8, h => exact h
    | 9, h => exact h
    | (_ + 10), _ => exact trivial
  · skip
    refine Inv.from_cons _ _ _ _ rfl (fun _ a w hJ hF F K hK => ?_) ?_
    · have hz : a.tmps.size = 15 := hF.size
      have e2 : a.tmps[2]? = some (.pointer (some ⟨bx, 0, none⟩)) := Inv2.some_slot (by rw [hz]; exact Nat.le_of_ble_eq_true rfl) (hF.slot 2 (by kernel_rfl))
      clear F hF hz
      have hh := HX.out _ hJ
      go_simp
      exact hK (.slice (some ⟨bk, 0, none⟩) n c) _ hJ (Below.refl _ _) rfl
    refine Inv.from_cons _ _ _ _ rfl (fun _ a w hJ hF F K hK => ?_) ?_
    · have hz : a.tmps.size = 15 := hF.size
      have e0 : a.tmps[0]? = some (.int .i64 p) := Inv2.some_slot (by rw [hz]; exact Nat.le_of_ble_eq_true rfl) (hF.slot 0 (by kernel_rfl))
      clear F hF hz
      go_simp
      exact hK (.int .i64 p) _ hJ (Below.refl _ _) rfl
    refine Inv.from_cons _ _ _ _ rfl (fun _ a w hJ hF F K hK => ?_) ?_
    · have hz : a.tmps.size = 15 := hF.size
      have e6 : a.tmps[6]? = some (.slice (some ⟨bk, 0, none⟩) n c) := Inv2.some_slot (by rw [hz]; exact Nat.le_of_ble_eq_true rfl) (F 0 (by kernel_rfl) 6 rfl)
      have e7 : a.tmps[7]? = some (.int .i64 p) := Inv2.some_slot (by rw [hz]; exact Nat.le_of_ble_eq_true rfl) (F 1 (by kernel_rfl) 7 rfl)
      clear F hF hz
      have hh := HP.out w
      go_simp
      exact hK (.pointer (some ⟨bk, ot, none⟩)) _ hJ (Below.refl _ _) rfl
    refine Inv.from_cons _ _ _ _ rfl (fun _ a w hJ hF F K hK => ?_) ?_
    · have hz : a.tmps.size = 15 := hF.size
      have e8 : a.tmps[8]? = some (.pointer (some ⟨bk, ot, none⟩)) := Inv2.some_slot (by rw [hz]; exact Nat.le_of_ble_eq_true rfl) (F 2 (by kernel_rfl) 8 rfl)
      clear F hF hz
      obtain ⟨d0, d1, d2, d3, d4, d5⟩ := HT.out _ hJ
      go_simp
      exact hK (.agg #[.string t.k, .string t.i, .string t.r, .string t.u.k, .string t.u.i, .string t.u.r]) _ hJ (Below.refl _ _) rfl
    refine Inv.from_cons _ _ _ _ rfl (fun _ a w hJ hF F K hK => ?_) ?_
    · have hz : a.tmps.size = 15 := hF.size
      have e2 : a.tmps[2]? = some (.pointer (some ⟨bx, 0, none⟩)) := Inv2.some_slot (by rw [hz]; exact Nat.le_of_ble_eq_true rfl) (hF.slot 2 (by kernel_rfl))
      clear F hF hz
      have hh := HX.out _ hJ
      go_simp
      exact hK (.slice (some ⟨bk, 0, none⟩) n c) _ hJ (Below.refl _ _) rfl
    refine Inv.from_cons _ _ _ _ rfl (fun _ a w hJ hF F K hK => ?_) ?_
    · have hz : a.tmps.size = 15 := hF.size
      have e1 : a.tmps[1]? = some (.int .i64 m) := Inv2.some_slot (by rw [hz]; exact Nat.le_of_ble_eq_true rfl) (hF.slot 1 (by kernel_rfl))
      clear F hF hz
      go_simp
      exact hK (.int .i64 m) _ hJ (Below.refl _ _) rfl
    refine Inv.from_cons _ _ _ _ rfl (fun _ a w hJ hF F K hK => ?_) ?_
    · have hz : a.tmps.size = 15 := hF.size
      have e10 : a.tmps[10]? = some (.slice (some ⟨bk, 0, none⟩) n c) := Inv2.some_slot (by rw [hz]; exact Nat.le_of_ble_eq_true rfl) (F 4 (by kernel_rfl) 10 rfl)
      have e11 : a.tmps[11]? = some (.int .i64 m) := Inv2.some_slot (by rw [hz]; exact Nat.le_of_ble_eq_true rfl) (F 5 (by kernel_rfl) 11 rfl)
      clear F hF hz
      have hh := HM.out w
      go_simp
      exact hK (.pointer (some ⟨bk, os, none⟩)) _ hJ (Below.refl _ _) rfl
    refine Inv.from_cons _ _ _ _ rfl (fun _ a w hJ hF F K hK => ?_) ?_
    · have hz : a.tmps.size = 15 := hF.size
      have e12 : a.tmps[12]? = some (.pointer (some ⟨bk, os, none⟩)) := Inv2.some_slot (by rw [hz]; exact Nat.le_of_ble_eq_true rfl) (F 6 (by kernel_rfl) 12 rfl)
      clear F hF hz
      obtain ⟨d0, d1, d2, d3, d4, d5⟩ := HS.out _ hJ
      go_simp
      exact hK (.agg #[.string s.k, .string s.i, .string s.r, .string s.u.k, .string s.u.i, .string s.u.r]) _ hJ (Below.refl _ _) rfl
    refine Inv.from_cons _ _ _ _ rfl (fun _ a w hJ hF F K hK => ?_) ?_
    · have hz : a.tmps.size = 15 := hF.size
      have e9 : a.tmps[9]? = some (.agg #[.string t.k, .string t.i, .string t.r, .string t.u.k, .string t.u.i, .string t.u.r]) := Inv2.some_slot (by rw [hz]; exact Nat.le_of_ble_eq_true rfl) (F 3 (by kernel_rfl) 9 rfl)
      have e13 : a.tmps[13]? = some (.agg #[.string s.k, .string s.i, .string s.r, .string s.u.k, .string s.u.i, .string s.u.r]) := Inv2.some_slot (by rw [hz]; exact Nat.le_of_ble_eq_true rfl) (F 7 (by kernel_rfl) 13 rfl)
      clear F hF hz
      have hh := HL.out w
      go_simp
      (with_reducible refine hh.mono ?_)
      rintro e' w' ⟨rfl, hb⟩
      go_simp
      exact hK (.bool x) _ (Below.step hJ hb) hb rfl
    refine Inv.from_skip _ _ _ _ rfl ?_
    exact Inv.from_end _ _ _ _ (by decide +kernel)
  · intro o ho a w hJ hF F K hK
    injection (show some _ = some o from ho) with ho
    subst ho
    obtain ⟨f, hf⟩ : ∃ f : Nat → Value, ∀ i, a.tmps.getD i undef = f i := ⟨_, fun _ => rfl⟩
    have g0 : f 0 = (.int .i64 p) := (hf 0).symm.trans (hF.slot 0 (by kernel_rfl))
    have g1 : f 1 = (.int .i64 m) := (hf 1).symm.trans (hF.slot 1 (by kernel_rfl))
    have g2 : f 2 = (.pointer (some ⟨bx, 0, none⟩)) := (hf 2).symm.trans (hF.slot 2 (by kernel_rfl))
    have g6 : f 6 = (.slice (some ⟨bk, 0, none⟩) n c) := (hf 6).symm.trans (F 0 (by decide) 6 rfl)
    have g7 : f 7 = (.int .i64 p) := (hf 7).symm.trans (F 1 (by decide) 7 rfl)
    have g8 : f 8 = (.pointer (some ⟨bk, ot, none⟩)) := (hf 8).symm.trans (F 2 (by decide) 8 rfl)
    have g9 : f 9 = (.agg #[.string t.k, .string t.i, .string t.r, .string t.u.k, .string t.u.i, .string t.u.r]) := (hf 9).symm.trans (F 3 (by decide) 9 rfl)
    have g10 : f 10 = (.slice (some ⟨bk, 0, none⟩) n c) := (hf 10).symm.trans (F 4 (by decide) 10 rfl)
    have g11 : f 11 = (.int .i64 m) := (hf 11).symm.trans (F 5 (by decide) 11 rfl)
    have g12 : f 12 = (.pointer (some ⟨bk, os, none⟩)) := (hf 12).symm.trans (F 6 (by decide) 12 rfl)
    have g13 : f 13 = (.agg #[.string s.k, .string s.i, .string s.r, .string s.u.k, .string s.u.i, .string s.u.r]) := (hf 13).symm.trans (F 7 (by decide) 13 rfl)
    have g14 : f 14 = (.bool x) := (hf 14).symm.trans (F 8 (by decide) 14 rfl)
    have ha := Frames.frame (show a.tmps.size = 15 from hF.size) hF.defers hf (l := [f 0, f 1, f 2, f 3, f 4, f 5, f 6, f 7, f 8, f 9, f 10, f 11, f 12, f 13, f 14]) rfl
    simp only [g0, g1, g2, g6, g7, g8, g9, g10, g11, g12, g13, g14] at ha
    clear F hF hf g0 g1 g2 g6 g7 g8 g9 g10 g11 g12 g13 g14
    subst ha
    have HB := Lib.hid (HB1.out.trans (hJ.mono HB1.out.size))
    clear hJ
    go_wp2_with fail
    go_ret
    exact ⟨rfl, HB.out⟩
  · intro hq; exact absurd hq (by decide +kernel)
/-- a slice of a user's parts -/
def UtV (t : Us) (v : Value) (w : World) : Prop := ∃ A c, v = .slice A 3 c ∧ Row w w.heap.size A ((Us.parts t).map .string)
theorem UtV.below {t : Us} {v : Value} {w w' : World} (h : UtV t v w) (hb : Below w.heap.size w w') : UtV t v w' := by
  obtain ⟨A, c, e, r⟩ := h
  exact ⟨A, c, e, r.belowSize hb⟩
def UPost (w : World) (t : Us) (e : Ending) (w' : World) : Prop := ∃ A c, e = .returned (.slice A 3 c) ∧ Row w' w'.heap.size A ((Us.parts t).map .string) ∧ Below w.heap.size w w'
set_option maxHeartbeats 3200000 in
theorem uparts_any (t : Us) (w : World) :
    Calls Tryz.prog 65 #[.agg (uc t)] w (UPost w t) := by
  obtain ⟨k, i, r⟩ := t
  have hb := (al w (.cells #[.string k, .string i, .string r] 30))
  have hb2 := Below.step hb (al _ (.cells #[.string k, .string i, .string r] 9))
  have hr := (row_of_block (heap_alloc_new (w.alloc (.cells #[.string k, .string i, .string r] 30)) (.cells #[.string k, .string i, .string r] 9))).more (B' := ((w.alloc (.cells #[.string k, .string i, .string r] 30)).alloc (.cells #[.string k, .string i, .string r] 9)).heap.size) (by simp)
  have HF := Lib.hid (show UPost w ⟨k, i, r⟩ (.returned (.slice (some ⟨(w.alloc (.cells #[.string k, .string i, .string r] 30)).heap.size, 0, none⟩) 3 3)) ((w.alloc (.cells #[.string k, .string i, .string r] 30)).alloc (.cells #[.string k, .string i, .string r] 9)) from ⟨_, _, rfl, hr, hb2⟩)
  clear hb hb2 hr
  unfold uc
  go_enter Tryz.func65, Tryz.ntmps65
  go_wp2_with fail
  go_ret
  exact (by simpa using HF.out)
theorem idx_us {A : Option Addr} {g o n c i : Nat} (hA : A = some ⟨g, o, none⟩) (hi : i < n) (w : World) : (Instr.indexAt 47 (.slice A n c) (.int .i64 (i : Int))).run Tryz.prog w = .ok (.pointer (some ⟨g, o + i * 3, none⟩)) w := by
  subst hA
  have h2 : (i : Int) < n := by omega
  go_simp
theorem three_of {w : World} {g o : Nat} {t : Us} (h : ∀ j v, (uc t).toList[j]? = some v → w.cell? ⟨g, o + j, none⟩ = some v) :
    w.cell? ⟨g, o, none⟩ = some (.string t.k) ∧ w.cell? ⟨g, o + 1, none⟩ = some (.string t.i) ∧ w.cell? ⟨g, o + 2, none⟩ = some (.string t.r) :=
  ⟨h 0 _ rfl, h 1 _ rfl, h 2 _ rfl⟩
set_option maxRecDepth 100000 in
set_option maxHeartbeats 12800000 in
theorem uless_any {w0 : World} {bx bk n c p m : Nat} {t s : Us} (hx : w0.cell? ⟨bx, 0, none⟩ = some (.slice (some ⟨bk, 0, none⟩) n c)) (hbx : bx < w0.heap.size) (hbk : bk < w0.heap.size) (hp : p < n) (hm : m < n)
    (ht : ∀ j v, (uc t).toList[j]? = some v → w0.cell? ⟨bk, 0 + p * 3 + j, none⟩ = some v) (hs : ∀ j v, (uc s).toList[j]? = some v → w0.cell? ⟨bk, 0 + m * 3 + j, none⟩ = some v) :
    Calls Tryz.prog 63 #[.int .i64 p, .int .i64 m, .pointer (some ⟨bx, 0, none⟩)] w0 fun e w' => e = .returned (.bool (ltU t s)) ∧ Below w0.heap.size w0 w' := by
  have HX := Lib.hid (fun (w' : World) (hw' : Below w0.heap.size w0 w') => (World.cell?_of_block (w := w0) (hw'.block bx hbx)).trans hx)
  have HP := Lib.hid (fun w' => idx_us (c := c) (A := some ⟨bk, 0, none⟩) rfl hp w')
  have HM := Lib.hid (fun w' => idx_us (c := c) (A := some ⟨bk, 0, none⟩) rfl hm w')
  have HT := Lib.hid (fun (w' : World) (hw' : Below w0.heap.size w0 w') => three_of (w := w') fun j v hv => (World.cell?_of_block (w := w0) (hw'.block bk hbk)).trans (ht j v hv))
  have HS := Lib.hid (fun (w' : World) (hw' : Below w0.heap.size w0 w') => three_of (w := w') fun j v hv => (World.cell?_of_block (w := w0) (hw'.block bk hbk)).trans (hs j v hv))
  have HB1 := Lib.hid (Below.refl w0.heap.size w0)
  generalize 0 + p * 3 = ot at HP HT
  generalize 0 + m * 3 = os at HM HS
  generalize hxe : ltU t s = x
  unfold ltU at hxe
  have HL := Lib.hid hxe
  clear hxe ht hs hx hbx hbk hp hm
  go_enter Tryz.func63, Tryz.ntmps63
  go_upto_region 1 with fail
  have hJ0 : Below w0.heap.size w0 (World.drew w0) := (Below.refl _ _).drew
  refine wp_region_any (by kernel_rfl) ?_
  change wpAny _ _ _ _ _ _ _ (World.drew _)
  refine Inv.inv_any (fun (i : Nat) (v : Value) (w : World) => match i with | 0 => v = .slice (some ⟨bk, 0, none⟩) n c | 1 => v = .int .i64 p | 2 => v = .pointer (some ⟨bk, ot, none⟩) | 3 => v = .agg #[.string t.k, .string t.i, .string t.r] | 4 => UtV t v w | 5 => v = .slice (some ⟨bk, 0, none⟩) n c | 6 => v = .int .i64 m | 7 => v = .pointer (some ⟨bk, os, none⟩) | 8 => v = .agg #[.string s.k, .string s.i, .string s.r] | 9 => UtV s v w | 10 => v = .bool x | 11 => v = .bool x | _ => True) (fun w' : World => Below w0.heap.size w0 w') _ 11 17 rfl rfl rfl (by kernel_rfl) (by kernel_rfl) hJ0 ?_ ?_ ?_ ?_
  · intro j v w w' h hb
    match j, h with
    | 0, h => exact h
    | 1, h => exact h
    | 2, h => exact h
    | 3, h => exact h
    | 4, h => exact UtV.below h hb
    | 5, h => exact h
    | 6, h => exact h
    | 7, h => exact h
    | 8, h => exact h
    | 9, h => exact UtV.below h hb
    | 10, h => exact h
    | 11, h => exact h
    | (_ + 12), _ => exact trivial
  · skip
    refine Inv.from_cons _ _ _ _ rfl (fun _ a w hJ hF F K hK => ?_) ?_
    · have hz : a.tmps.size = 17 := hF.size
      have e2 : a.tmps[2]? = some (.pointer (some ⟨bx, 0, none⟩)) := Inv2.some_slot (by rw [hz]; exact Nat.le_of_ble_eq_true rfl) (hF.slot 2 (by kernel_rfl))
      clear F hF hz
      have hh := HX.out _ hJ
      go_simp
      exact hK (.slice (some ⟨bk, 0, none⟩) n c) _ hJ (Below.refl _ _) rfl
    refine Inv.from_cons _ _ _ _ rfl (fun _ a w hJ hF F K hK => ?_) ?_
    · have hz : a.tmps.size = 17 := hF.size
      have e0 : a.tmps[0]? = some (.int .i64 p) := Inv2.some_slot (by rw [hz]; exact Nat.le_of_ble_eq_true rfl) (hF.slot 0 (by kernel_rfl))
      clear F hF hz
      go_simp
      exact hK (.int .i64 p) _ hJ (Below.refl _ _) rfl
    refine Inv.from_cons _ _ _ _ rfl (fun _ a w hJ hF F K hK => ?_) ?_
    · have hz : a.tmps.size = 17 := hF.size
      have e6 : a.tmps[6]? = some (.slice (some ⟨bk, 0, none⟩) n c) := Inv2.some_slot (by rw [hz]; exact Nat.le_of_ble_eq_true rfl) (F 0 (by kernel_rfl) 6 rfl)
      have e7 : a.tmps[7]? = some (.int .i64 p) := Inv2.some_slot (by rw [hz]; exact Nat.le_of_ble_eq_true rfl) (F 1 (by kernel_rfl) 7 rfl)
      clear F hF hz
      have hh := HP.out w
      go_simp
      exact hK (.pointer (some ⟨bk, ot, none⟩)) _ hJ (Below.refl _ _) rfl
    refine Inv.from_cons _ _ _ _ rfl (fun _ a w hJ hF F K hK => ?_) ?_
    · have hz : a.tmps.size = 17 := hF.size
      have e8 : a.tmps[8]? = some (.pointer (some ⟨bk, ot, none⟩)) := Inv2.some_slot (by rw [hz]; exact Nat.le_of_ble_eq_true rfl) (F 2 (by kernel_rfl) 8 rfl)
      clear F hF hz
      obtain ⟨d0, d1, d2⟩ := HT.out _ hJ
      go_simp
      exact hK (.agg #[.string t.k, .string t.i, .string t.r]) _ hJ (Below.refl _ _) rfl
    refine Inv.from_cons _ _ _ _ rfl (fun _ a w hJ hF F K hK => ?_) ?_
    · have hz : a.tmps.size = 17 := hF.size
      have e9 : a.tmps[9]? = some (.agg #[.string t.k, .string t.i, .string t.r]) := Inv2.some_slot (by rw [hz]; exact Nat.le_of_ble_eq_true rfl) (F 3 (by kernel_rfl) 9 rfl)
      clear F hF hz
      have hh := uparts_any t w
      unfold uc at hh
      go_simp
      (with_reducible refine hh.mono ?_)
      rintro e' w' hq
      unfold UPost at hq
      obtain ⟨A9, c9, rfl, hr, hb⟩ := hq
      go_simp
      exact hK _ _ (Below.step hJ hb) hb ⟨A9, c9, rfl, hr⟩
    refine Inv.from_cons _ _ _ _ rfl (fun _ a w hJ hF F K hK => ?_) ?_
    · have hz : a.tmps.size = 17 := hF.size
      have e2 : a.tmps[2]? = some (.pointer (some ⟨bx, 0, none⟩)) := Inv2.some_slot (by rw [hz]; exact Nat.le_of_ble_eq_true rfl) (hF.slot 2 (by kernel_rfl))
      clear F hF hz
      have hh := HX.out _ hJ
      go_simp
      exact hK (.slice (some ⟨bk, 0, none⟩) n c) _ hJ (Below.refl _ _) rfl
    refine Inv.from_cons _ _ _ _ rfl (fun _ a w hJ hF F K hK => ?_) ?_
    · have hz : a.tmps.size = 17 := hF.size
      have e1 : a.tmps[1]? = some (.int .i64 m) := Inv2.some_slot (by rw [hz]; exact Nat.le_of_ble_eq_true rfl) (hF.slot 1 (by kernel_rfl))
      clear F hF hz
      go_simp
      exact hK (.int .i64 m) _ hJ (Below.refl _ _) rfl
    refine Inv.from_cons _ _ _ _ rfl (fun _ a w hJ hF F K hK => ?_) ?_
    · have hz : a.tmps.size = 17 := hF.size
      have e11 : a.tmps[11]? = some (.slice (some ⟨bk, 0, none⟩) n c) := Inv2.some_slot (by rw [hz]; exact Nat.le_of_ble_eq_true rfl) (F 5 (by kernel_rfl) 11 rfl)
      have e12 : a.tmps[12]? = some (.int .i64 m) := Inv2.some_slot (by rw [hz]; exact Nat.le_of_ble_eq_true rfl) (F 6 (by kernel_rfl) 12 rfl)
      clear F hF hz
      have hh := HM.out w
      go_simp
      exact hK (.pointer (some ⟨bk, os, none⟩)) _ hJ (Below.refl _ _) rfl
    refine Inv.from_cons _ _ _ _ rfl (fun _ a w hJ hF F K hK => ?_) ?_
    · have hz : a.tmps.size = 17 := hF.size
      have e13 : a.tmps[13]? = some (.pointer (some ⟨bk, os, none⟩)) := Inv2.some_slot (by rw [hz]; exact Nat.le_of_ble_eq_true rfl) (F 7 (by kernel_rfl) 13 rfl)
      clear F hF hz
      obtain ⟨d0, d1, d2⟩ := HS.out _ hJ
      go_simp
      exact hK (.agg #[.string s.k, .string s.i, .string s.r]) _ hJ (Below.refl _ _) rfl
    refine Inv.from_cons _ _ _ _ rfl (fun _ a w hJ hF F K hK => ?_) ?_
    · have hz : a.tmps.size = 17 := hF.size
      obtain ⟨x10, e10, f4⟩ : ∃ xv, a.tmps[10]? = some xv ∧ UtV t xv w := ⟨_, Inv2.some_slot (by rw [hz]; exact Nat.le_of_ble_eq_true rfl) rfl, F 4 (by kernel_rfl) 10 rfl⟩
      have e14 : a.tmps[14]? = some (.agg #[.string s.k, .string s.i, .string s.r]) := Inv2.some_slot (by rw [hz]; exact Nat.le_of_ble_eq_true rfl) (F 8 (by kernel_rfl) 14 rfl)
      clear F hF hz
      have hh := uparts_any s w
      unfold uc at hh
      go_simp
      (with_reducible refine hh.mono ?_)
      rintro e' w' hq
      unfold UPost at hq
      obtain ⟨A9, c9, rfl, hr, hb⟩ := hq
      go_simp
      exact hK _ _ (Below.step hJ hb) hb ⟨A9, c9, rfl, hr⟩
    refine Inv.from_cons _ _ _ _ rfl (fun _ a w hJ hF F K hK => ?_) ?_
    · have hz : a.tmps.size = 17 := hF.size
      obtain ⟨x10, e10, f4⟩ : ∃ xv, a.tmps[10]? = some xv ∧ UtV t xv w := ⟨_, Inv2.some_slot (by rw [hz]; exact Nat.le_of_ble_eq_true rfl) rfl, F 4 (by kernel_rfl) 10 rfl⟩
      obtain ⟨x15, e15, f9⟩ : ∃ xv, a.tmps[15]? = some xv ∧ UtV s xv w := ⟨_, Inv2.some_slot (by rw [hz]; exact Nat.le_of_ble_eq_true rfl) rfl, F 9 (by kernel_rfl) 15 rfl⟩
      clear F hF hz
      obtain ⟨A8, c8, hx8, hr8⟩ := f4
      obtain ⟨A9, c9, hx9, hr9⟩ := f9
      subst hx8 hx9
      have hh := KeyRead.Less_q A8 A9 c8 c9 (Us.parts t) (Us.parts s) w hr8 hr9 (by simp [Us.parts, maxLen]) (by simp [Us.parts, maxLen])
      rw [HL.out] at hh
      simp only [Us.parts, List.length_cons, List.length_nil, Nat.zero_add, Nat.reduceAdd] at hh
      go_simp
      (with_reducible refine hh.mono ?_)
      rintro e' w' ⟨rfl, rfl⟩
      go_simp
      exact hK _ _ hJ (Below.refl _ _) rfl
    refine Inv.from_skip _ _ _ _ rfl ?_
    exact Inv.from_end _ _ _ _ (by decide +kernel)
  · intro o ho a w hJ hF F K hK
    injection (show some _ = some o from ho) with ho
    subst ho
    obtain ⟨f, hf⟩ : ∃ f : Nat → Value, ∀ i, a.tmps.getD i undef = f i := ⟨_, fun _ => rfl⟩
    have g0 : f 0 = (.int .i64 p) := (hf 0).symm.trans (hF.slot 0 (by kernel_rfl))
    have g1 : f 1 = (.int .i64 m) := (hf 1).symm.trans (hF.slot 1 (by kernel_rfl))
    have g2 : f 2 = (.pointer (some ⟨bx, 0, none⟩)) := (hf 2).symm.trans (hF.slot 2 (by kernel_rfl))
    have g6 : f 6 = (.slice (some ⟨bk, 0, none⟩) n c) := (hf 6).symm.trans (F 0 (by decide) 6 rfl)
    have g7 : f 7 = (.int .i64 p) := (hf 7).symm.trans (F 1 (by decide) 7 rfl)
    have g8 : f 8 = (.pointer (some ⟨bk, ot, none⟩)) := (hf 8).symm.trans (F 2 (by decide) 8 rfl)
    have g9 : f 9 = (.agg #[.string t.k, .string t.i, .string t.r]) := (hf 9).symm.trans (F 3 (by decide) 9 rfl)
    obtain ⟨x10, g10⟩ : ∃ x, f 10 = x := ⟨_, rfl⟩
    have f4 : UtV t x10 w := by rw [← g10, ← hf 10]; exact F 4 (by decide) 10 rfl
    have g11 : f 11 = (.slice (some ⟨bk, 0, none⟩) n c) := (hf 11).symm.trans (F 5 (by decide) 11 rfl)
    have g12 : f 12 = (.int .i64 m) := (hf 12).symm.trans (F 6 (by decide) 12 rfl)
    have g13 : f 13 = (.pointer (some ⟨bk, os, none⟩)) := (hf 13).symm.trans (F 7 (by decide) 13 rfl)
    have g14 : f 14 = (.agg #[.string s.k, .string s.i, .string s.r]) := (hf 14).symm.trans (F 8 (by decide) 14 rfl)
    obtain ⟨x15, g15⟩ : ∃ x, f 15 = x := ⟨_, rfl⟩
    have f9 : UtV s x15 w := by rw [← g15, ← hf 15]; exact F 9 (by decide) 15 rfl
    have g16 : f 16 = (.bool x) := (hf 16).symm.trans (F 10 (by decide) 16 rfl)
    have ha := Frames.frame (show a.tmps.size = 17 from hF.size) hF.defers hf (l := [f 0, f 1, f 2, f 3, f 4, f 5, f 6, f 7, f 8, f 9, f 10, f 11, f 12, f 13, f 14, f 15, f 16]) rfl
    simp only [g0, g1, g2, g6, g7, g8, g9, g10, g11, g12, g13, g14, g15, g16] at ha
    clear F hF hf g0 g1 g2 g6 g7 g8 g9 g10 g11 g12 g13 g14 g15 g16
    subst ha
    have HB := Lib.hid (HB1.out.trans (hJ.mono HB1.out.size))
    clear hJ
    go_wp2_with fail
    go_ret
    exact ⟨rfl, HB.out⟩
  · intro hq; exact absurd hq (by decide +kernel)
end Go.Proofs.YtilcnhdfdgmekaaGreat.FactsLess
namespace Go.Proofs.YtilcnhdfdgmekaaGreat.FactsSort
open Go.RowKit Base KeyPlain TuplePlain TupleRef TupleSpec TupleCut FMap FactsPlain FactsMem FactsNew SortKit SortSlice FactsLess
open Go.Sort (HoldsK PermIn SortedIn)

theorem sorted_mk {α : Type} [DecidableEq α] [Inhabited α] {lt : α → α → Bool} (O : Ord lt) {l : List α} {d : Array α} (nd : l.Nodup) (hp : PermIn 0 l.length l.toArray d) (hs : SortedIn lt 0 l.length d) : d = (mk lt l).toArray := by
  obtain ⟨h1, _, h3⟩ := hp
  have hz : d.size = l.length := by simpa using h1
  have hp2 : d.toList.Perm l := by
    have : d.extract 0 l.length = d := by rw [← hz]; simp
    rw [this] at h3
    simpa using h3
  have hnd : d.toList.Nodup := hp2.nodup_iff.2 nd
  have hup : Up lt d.toList := by
    unfold Up
    rw [List.pairwise_iff_getElem]
    intro i j hi hj hij
    have hi' : i < d.size := by simpa using hi
    have hj' : j < d.size := by simpa using hj
    have h4 := hs i j (Nat.zero_le _) hij (by omega)
    rw [getElem!_pos d i hi', getElem!_pos d j hj'] at h4
    cases h5 : lt d.toList[i] d.toList[j] with
    | true => rfl
    | false =>
      exfalso
      have h6 : d.toList[i] = d.toList[j] := O.tot _ _ h5 (by simpa using h4)
      have := (List.getElem_inj hnd).1 h6
      omega
  have := up_ext O hup (mk_up O l) fun x => by rw [mk_mem, hp2.mem_iff]
  rw [← this]
theorem mk_len {α : Type} [DecidableEq α] {lt : α → α → Bool} (O : Ord lt) {l : List α} (nd : l.Nodup) : (mk lt l).length = l.length := by
  have h1 : (mk lt l).Nodup := by
    have := mk_up O l
    unfold Up at this
    exact this.imp fun {a b} h e => by subst e; rw [O.irr] at h; cases h
  have hp : (mk lt l).Perm l := (List.perm_ext_iff_of_nodup h1 nd).2 fun x => mk_mem
  exact hp.length_eq
theorem enc_at {α : Type} [Inhabited α] {enc : α → List Value} {k : Nat} {w : World} {b : Nat} {d : Array α} (hk : ∀ x, (enc x).length = k) (h : HoldsK enc k w b 0 d) {i : Nat} (hi : i < d.size) :
    ∀ j v, (enc d[i]!)[j]? = some v → w.cell? ⟨b, 0 + i * k + j, none⟩ = some v := fun j v hv => by
  have hj : j < (enc d[i]!).length := (List.getElem?_eq_some_iff.1 hv).1
  have := (Go.Sort.HoldsK.cell h hi (c := j) (by rw [← hk d[i]!]; exact hj)).1
  rw [this, getElem!_pos _ j hj]
  rw [List.getElem?_eq_getElem hj] at hv
  exact hv
theorem tsort_any {w : World} {bx bk c n : Nat} (l : List Tp) (hn : n = l.length) (few : n < 4611686018427387904) (nd : l.Nodup) (hx : w.cell? ⟨bx, 0, none⟩ = some (.slice (some ⟨bk, 0, none⟩) n c)) (hbx : bx < w.heap.size) (hbk : bk < w.heap.size) (hne : bx ≠ bk) (hH : HoldsK encT 6 w bk 0 l.toArray) :
    Calls Tryz.prog 57 #[.iface 22 (.slice (some ⟨bk, 0, none⟩) n c), .func (.func 58) #[] #[.pointer (some ⟨bx, 0, none⟩)]] w fun e w' => e = .returned (.tuple #[]) ∧ HoldsK encT 6 w' bk 0 (mk ltT l).toArray ∧ Onl bk w w' := by
  subst hn
  have := slice_any (swo_of ordT) tI_sl bk c w.heap.size 58 #[.pointer (some ⟨bx, 0, none⟩)] l.toArray w (by simpa using few) (Nat.le_refl _) hbk (enters_of Tryz.func58 (by kernel_rfl) rfl)
    (fun dk w' h1 h2 h3 h4 i j hi hj => tless_any (n := l.length) (c := c) ((World.cell?_of_block (w := w) (h2 bx hbx hne)).trans hx) (Nat.lt_of_lt_of_le hbx h1) (Nat.lt_of_lt_of_le hbk h1) (by simpa using hi) (by simpa using hj) (enc_at (d := dk) (enc := encT) (k := 6) (fun _ => rfl) h3 (by omega)) (enc_at (d := dk) (enc := encT) (k := 6) (fun _ => rfl) h3 (by omega))) hH
  refine (by simpa using this : Calls _ _ _ _ _).mono ?_
  rintro e w' ⟨rfl, d', hp, hs, hh, ho⟩
  have hd := sorted_mk ordT nd (by simpa using hp) (by simpa using hs)
  subst hd
  exact ⟨rfl, hh, ho⟩
theorem usort_any {w : World} {bx bk c n : Nat} (l : List Us) (hn : n = l.length) (few : n < 4611686018427387904) (nd : l.Nodup) (hx : w.cell? ⟨bx, 0, none⟩ = some (.slice (some ⟨bk, 0, none⟩) n c)) (hbx : bx < w.heap.size) (hbk : bk < w.heap.size) (hne : bx ≠ bk) (hH : HoldsK encU 3 w bk 0 l.toArray) :
    Calls Tryz.prog 57 #[.iface 47 (.slice (some ⟨bk, 0, none⟩) n c), .func (.func 63) #[] #[.pointer (some ⟨bx, 0, none⟩)]] w fun e w' => e = .returned (.tuple #[]) ∧ HoldsK encU 3 w' bk 0 (mk ltU l).toArray ∧ Onl bk w w' := by
  subst hn
  have := slice_any (swo_of ordU) uI_sl bk c w.heap.size 63 #[.pointer (some ⟨bx, 0, none⟩)] l.toArray w (by simpa using few) (Nat.le_refl _) hbk (enters_of Tryz.func63 (by kernel_rfl) rfl)
    (fun dk w' h1 h2 h3 h4 i j hi hj => uless_any (n := l.length) (c := c) ((World.cell?_of_block (w := w) (h2 bx hbx hne)).trans hx) (Nat.lt_of_lt_of_le hbx h1) (Nat.lt_of_lt_of_le hbk h1) (by simpa using hi) (by simpa using hj) (enc_at (d := dk) (enc := encU) (k := 3) (fun _ => rfl) h3 (by omega)) (enc_at (d := dk) (enc := encU) (k := 3) (fun _ => rfl) h3 (by omega))) hH
  refine (by simpa using this : Calls _ _ _ _ _).mono ?_
  rintro e w' ⟨rfl, d', hp, hs, hh, ho⟩
  have hd := sorted_mk ordU nd (by simpa using hp) (by simpa using hs)
  subst hd
  exact ⟨rfl, hh, ho⟩
end Go.Proofs.YtilcnhdfdgmekaaGreat.FactsSort
