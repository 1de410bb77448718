/- The contracts of Put and Take. -/
import Derived.Test.YtpidnkfcccboaaaGreatKInv4
import Derived.Test.YtpidnkfcccboaaaGreatKPagerFind
namespace Go.Proofs.YtpidnkfcccboaaaGreat.FreePut
open Go.RowKit Base FreePlain FreeMem FreeFn FreeFind FreeSearch FreeCat FreeSl

theorem bstep {g : Nat} {W w w' : World} (h : Below g W w) (hg : g ≤ w.heap.size) (hb : Below w.heap.size w w') : Below g W w' := h.trans (hb.mono hg)

set_option maxRecDepth 100000 in
set_option maxHeartbeats 3200000 in
theorem put_any (W : World) (A : Option Addr) (n c : Nat) (l : Fs) (g e : Int) (hn : n = l.length) (hc : l.length ≤ c) (hr : Row W W.heap.size A (fr l)) (hu : Rise l) (hl : l.length ≤ 1000) :
  Calls Tryz.prog 92 #[.slice A n c, .int .i64 g, .int .i64 e] W fun r w' => ∃ A' m c', r = .returned (.slice A' m c') ∧ m = (ins g e l).length ∧ OwnF w' W.heap.size A' c' (ins g e l) ∧ Below W.heap.size W w' := by
 subst hn
 obtain ⟨k, b, hs⟩ := sr_ex g hu
 have HR := Lib.hid hr
 have HC := Lib.hid hc
 have HCALL := Lib.hid (search_at W A l.length c l g hs rfl hr hu (by omega))
 have HS2 := Lib.hid (fun (w : World) (h : Below W.heap.size W w) => h.size)
 have hi := sr_ins (e := e) hs
 have HK := Lib.hid hs.1
 have hkl := hs.1
 have HE := Lib.hid hs.2.2.2
 clear hr hc hu hs
 have hkk : k ≤ 1000 := by omega
 cases b with
 | false =>
  have HI := Lib.hid (show [l.take k, [(g, e)], l.drop k].flatten = ins g e l by rw [hi]; simp)
  have HK2 := Lib.hid hkl
  have HL := Lib.hid (show [l.take k, [(g, e)], l.drop k].flatten.length ≤ 100000 by simp; omega)
  clear hi HE hkl hl
  go_enter Tryz.func92, Tryz.ntmps92
  go_wp2_with (go_at_call 84; refine HCALL.out.mono ?_; rintro e w1 ⟨rfl, hb1⟩)
  have hJ0 : Below W.heap.size W (World.drew w1) := hb1.trans (Below.refl _ _).drew
  clear hb1 HCALL
  refine wp_region_any (by kernel_rfl) ?_
  change wpAny _ _ _ _ _ _ _ (World.drew _)
  refine Inv.inv_any (fun (i : Nat) (v : Value) (w : World) => match i with | 0 => v = .slice A l.length c | 1 => v = .int .i64 (k : Int) | 2 => SlF (l.take k) v w | 3 => v = .int .i64 g | 4 => v = .int .i64 e | 5 => v = .agg #[.int .i64 g, .int .i64 e] | 6 => SlF [(g, e)] v w | 7 => v = .slice A l.length c | 8 => v = .int .i64 (k : Int) | 9 => SlF (l.drop (k)) v w | 10 => PcF [l.take k, [(g, e)], l.drop (k)] v w | 11 => OwF W.heap.size (ins g e l) v w | _ => True) (fun w' : World => Below W.heap.size W w') _ 12 32 rfl rfl rfl (by kernel_rfl) (by kernel_rfl) hJ0 ?_ ?_ ?_ ?_
  ·intro j v w w' h hb
   match j, h with
   | 0, h => exact h
   | 1, h => exact h
   | 2, h => exact SlF.below h hb
   | 3, h => exact h
   | 4, h => exact h
   | 5, h => exact h
   | 6, h => exact SlF.below h hb
   | 7, h => exact h
   | 8, h => exact h
   | 9, h => exact SlF.below h hb
   | 10, h => exact PcF.below h hb
   | 11, h => exact OwF.below h hb
   | 12, _ => exact trivial
   | (_ + 13), _ => exact trivial
  ·skip
   refine Inv.from_cons _ _ _ _ rfl (fun _ a w hJ hF F K hK => ?_) ?_
   ·have hz : a.tmps.size = 32 := hF.size
    have e0 : a.tmps[0]? = some (.slice A l.length c) := Inv2.some_slot (by rw [hz]; exact Nat.le_of_ble_eq_true rfl) (hF.slot 0 (by kernel_rfl))
    clear F hF hz
    have hJ1 := hJ
    obtain _ := hJ1
    go_simp
    exact hK (.slice A l.length c) _ hJ (Below.refl _ _) rfl
   refine Inv.from_cons _ _ _ _ rfl (fun _ a w hJ hF F K hK => ?_) ?_
   ·have hz : a.tmps.size = 32 := hF.size
    have e7 : a.tmps[7]? = some (.int .i64 (k : Int)) := Inv2.some_slot (by rw [hz]; exact Nat.le_of_ble_eq_true rfl) (hF.slot 7 (by kernel_rfl))
    clear F hF hz
    have hJ1 := hJ
    obtain _ := hJ1
    go_simp
    exact hK (.int .i64 (k : Int)) _ hJ (Below.refl _ _) rfl
   refine Inv.from_cons _ _ _ _ rfl (fun _ a w hJ hF F K hK => ?_) ?_
   ·have hz : a.tmps.size = 32 := hF.size
    have e20 : a.tmps[20]? = some (.slice A l.length c) := Inv2.some_slot (by rw [hz]; exact Nat.le_of_ble_eq_true rfl) (F 0 (by kernel_rfl) 20 rfl)
    have e21 : a.tmps[21]? = some (.int .i64 (k : Int)) := Inv2.some_slot (by rw [hz]; exact Nat.le_of_ble_eq_true rfl) (F 1 (by kernel_rfl) 21 rfl)
    clear F hF hz
    have hJ1 := hJ
    obtain _ := hJ1
    obtain ⟨v, hrun, hv⟩ := cut_h (n := l.length) (i := k) (HR.out.belowSize hJ) HC.out HK.out
    clear hJ1
    go_simp
    exact hK _ _ hJ (Below.refl _ _) hv
   refine Inv.from_cons _ _ _ _ rfl (fun _ a w hJ hF F K hK => ?_) ?_
   ·have hz : a.tmps.size = 32 := hF.size
    have e1 : a.tmps[1]? = some (.int .i64 g) := Inv2.some_slot (by rw [hz]; exact Nat.le_of_ble_eq_true rfl) (hF.slot 1 (by kernel_rfl))
    clear F hF hz
    have hJ1 := hJ
    obtain _ := hJ1
    go_simp
    exact hK (.int .i64 g) _ hJ (Below.refl _ _) rfl
   refine Inv.from_cons _ _ _ _ rfl (fun _ a w hJ hF F K hK => ?_) ?_
   ·have hz : a.tmps.size = 32 := hF.size
    have e2 : a.tmps[2]? = some (.int .i64 e) := Inv2.some_slot (by rw [hz]; exact Nat.le_of_ble_eq_true rfl) (hF.slot 2 (by kernel_rfl))
    clear F hF hz
    have hJ1 := hJ
    obtain _ := hJ1
    go_simp
    exact hK (.int .i64 e) _ hJ (Below.refl _ _) rfl
   refine Inv.from_cons _ _ _ _ rfl (fun _ a w hJ hF F K hK => ?_) ?_
   ·have hz : a.tmps.size = 32 := hF.size
    have e23 : a.tmps[23]? = some (.int .i64 g) := Inv2.some_slot (by rw [hz]; exact Nat.le_of_ble_eq_true rfl) (F 3 (by kernel_rfl) 23 rfl)
    have e24 : a.tmps[24]? = some (.int .i64 e) := Inv2.some_slot (by rw [hz]; exact Nat.le_of_ble_eq_true rfl) (F 4 (by kernel_rfl) 24 rfl)
    clear F hF hz
    have hJ1 := hJ
    obtain _ := hJ1
    go_simp
    exact hK (.agg #[.int .i64 g, .int .i64 e]) _ hJ (Below.refl _ _) rfl
   refine Inv.from_cons _ _ _ _ rfl (fun _ a w hJ hF F K hK => ?_) ?_
   ·have hz : a.tmps.size = 32 := hF.size
    have e25 : a.tmps[25]? = some (.agg #[.int .i64 g, .int .i64 e]) := Inv2.some_slot (by rw [hz]; exact Nat.le_of_ble_eq_true rfl) (F 5 (by kernel_rfl) 25 rfl)
    clear F hF hz
    have hJ1 := hJ
    obtain _ := hJ1
    go_simp
    exact hK _ _ (bstep hJ (HS2.out _ hJ) (al _ _)) (al _ _) (sl_new w (g, e))
   refine Inv.from_cons _ _ _ _ rfl (fun _ a w hJ hF F K hK => ?_) ?_
   ·have hz : a.tmps.size = 32 := hF.size
    have e0 : a.tmps[0]? = some (.slice A l.length c) := Inv2.some_slot (by rw [hz]; exact Nat.le_of_ble_eq_true rfl) (hF.slot 0 (by kernel_rfl))
    clear F hF hz
    have hJ1 := hJ
    obtain _ := hJ1
    go_simp
    exact hK (.slice A l.length c) _ hJ (Below.refl _ _) rfl
   refine Inv.from_cons _ _ _ _ rfl (fun _ a w hJ hF F K hK => ?_) ?_
   ·have hz : a.tmps.size = 32 := hF.size
    have e9 : a.tmps[9]? = some (.int .i64 (k : Int)) := Inv2.some_slot (by rw [hz]; exact Nat.le_of_ble_eq_true rfl) (hF.slot 9 (by kernel_rfl))
    clear F hF hz
    have hJ1 := hJ
    obtain _ := hJ1
    clear hJ1
    go_simp
    exact hK (.int .i64 (k : Int)) _ hJ (Below.refl _ _) rfl
   refine Inv.from_cons _ _ _ _ rfl (fun _ a w hJ hF F K hK => ?_) ?_
   ·have hz : a.tmps.size = 32 := hF.size
    have e27 : a.tmps[27]? = some (.slice A l.length c) := Inv2.some_slot (by rw [hz]; exact Nat.le_of_ble_eq_true rfl) (F 7 (by kernel_rfl) 27 rfl)
    have e28 : a.tmps[28]? = some (.int .i64 (k : Int)) := Inv2.some_slot (by rw [hz]; exact Nat.le_of_ble_eq_true rfl) (F 8 (by kernel_rfl) 28 rfl)
    clear F hF hz
    have hJ1 := hJ
    obtain _ := hJ1
    obtain ⟨v, hrun, hv⟩ := cut_l (n := l.length) (i := k) rfl (HR.out.belowSize hJ) HC.out HK2.out
    clear hJ1
    go_simp
    exact hK _ _ hJ (Below.refl _ _) hv
   refine Inv.from_cons _ _ _ _ rfl (fun _ a w hJ hF F K hK => ?_) ?_
   ·have hz : a.tmps.size = 32 := hF.size
    obtain ⟨x22, e22, f2⟩ : ∃ x, a.tmps[22]? = some x ∧ SlF (l.take k) x w := ⟨_, Inv2.some_slot (by rw [hz]; exact Nat.le_of_ble_eq_true rfl) rfl, F 2 (by kernel_rfl) 22 rfl⟩
    obtain ⟨x26, e26, f6⟩ : ∃ x, a.tmps[26]? = some x ∧ SlF [(g, e)] x w := ⟨_, Inv2.some_slot (by rw [hz]; exact Nat.le_of_ble_eq_true rfl) rfl, F 6 (by kernel_rfl) 26 rfl⟩
    obtain ⟨x29, e29, f9⟩ : ∃ x, a.tmps[29]? = some x ∧ SlF (l.drop (k)) x w := ⟨_, Inv2.some_slot (by rw [hz]; exact Nat.le_of_ble_eq_true rfl) rfl, F 9 (by kernel_rfl) 29 rfl⟩
    clear F hF hz
    have hJ1 := hJ
    obtain _ := hJ1
    have hp := pc3 (t := 31) f2 f6 f9
    obtain ⟨_, _, _, rfl⟩ := f2.form
    obtain ⟨_, _, _, rfl⟩ := f6.form
    obtain ⟨_, _, _, rfl⟩ := f9.form
    clear f2 f6 f9
    go_simp
    exact hK _ _ (bstep hJ (HS2.out _ hJ) (al _ _)) (al _ _) hp
   refine Inv.from_cons _ _ _ _ rfl (fun _ a w hJ hF F K hK => ?_) ?_
   ·have hz : a.tmps.size = 32 := hF.size
    obtain ⟨x30, e30, f10⟩ : ∃ x, a.tmps[30]? = some x ∧ PcF [l.take k, [(g, e)], l.drop (k)] x w := ⟨_, Inv2.some_slot (by rw [hz]; exact Nat.le_of_ble_eq_true rfl) rfl, F 10 (by kernel_rfl) 30 rfl⟩
    clear F hF hz
    have hJ1 := hJ
    obtain _ := hJ1
    have hh := catF w x30 _ W.heap.size (HS2.out _ hJ) f10 HL.out (by simp)
    obtain ⟨P, m, c', rfl⟩ := f10.form
    clear f10
    rw [HI.out] at hh
    go_simp
    refine hh.mono ?_
    rintro e' w' ⟨A', m', c'', rfl, hA, hb⟩
    go_simp
    exact hK _ _ (bstep hJ (HS2.out _ hJ) hb) hb hA
   refine Inv.from_skip _ _ _ _ rfl ?_
   exact Inv.from_end _ _ _ _ (by decide +kernel)
  ·intro o ho a w hJ hF F K hK
   injection (show some _ = some o from ho) with ho
   subst ho
   obtain ⟨f, hf⟩ : ∃ f : Nat → Value, ∀ i, a.tmps.getD i undef = f i := ⟨_, fun _ => rfl⟩
   have g0 : f 0 = (.slice A l.length c) := (hf 0).symm.trans (hF.slot 0 (by kernel_rfl))
   have g1 : f 1 = (.int .i64 g) := (hf 1).symm.trans (hF.slot 1 (by kernel_rfl))
   have g2 : f 2 = (.int .i64 e) := (hf 2).symm.trans (hF.slot 2 (by kernel_rfl))
   have g7 : f 7 = (.int .i64 (k : Int)) := (hf 7).symm.trans (hF.slot 7 (by kernel_rfl))
   have g9 : f 9 = (.int .i64 (k : Int)) := (hf 9).symm.trans (hF.slot 9 (by kernel_rfl))
   have g20 : f 20 = (.slice A l.length c) := (hf 20).symm.trans (F 0 (by decide) 20 rfl)
   have g21 : f 21 = (.int .i64 (k : Int)) := (hf 21).symm.trans (F 1 (by decide) 21 rfl)
   obtain ⟨x22, g22⟩ : ∃ x, f 22 = x := ⟨_, rfl⟩
   have f2 : SlF (l.take k) x22 w := by rw [← g22, ← hf 22]; exact F 2 (by decide) 22 rfl
   have g23 : f 23 = (.int .i64 g) := (hf 23).symm.trans (F 3 (by decide) 23 rfl)
   have g24 : f 24 = (.int .i64 e) := (hf 24).symm.trans (F 4 (by decide) 24 rfl)
   have g25 : f 25 = (.agg #[.int .i64 g, .int .i64 e]) := (hf 25).symm.trans (F 5 (by decide) 25 rfl)
   obtain ⟨x26, g26⟩ : ∃ x, f 26 = x := ⟨_, rfl⟩
   have f6 : SlF [(g, e)] x26 w := by rw [← g26, ← hf 26]; exact F 6 (by decide) 26 rfl
   have g27 : f 27 = (.slice A l.length c) := (hf 27).symm.trans (F 7 (by decide) 27 rfl)
   have g28 : f 28 = (.int .i64 (k : Int)) := (hf 28).symm.trans (F 8 (by decide) 28 rfl)
   obtain ⟨x29, g29⟩ : ∃ x, f 29 = x := ⟨_, rfl⟩
   have f9 : SlF (l.drop (k)) x29 w := by rw [← g29, ← hf 29]; exact F 9 (by decide) 29 rfl
   obtain ⟨x30, g30⟩ : ∃ x, f 30 = x := ⟨_, rfl⟩
   have f10 : PcF [l.take k, [(g, e)], l.drop (k)] x30 w := by rw [← g30, ← hf 30]; exact F 10 (by decide) 30 rfl
   obtain ⟨x31, g31⟩ : ∃ x, f 31 = x := ⟨_, rfl⟩
   have f11 : OwF W.heap.size (ins g e l) x31 w := by rw [← g31, ← hf 31]; exact F 11 (by decide) 31 rfl
   have ha := Frames.frame (show a.tmps.size = 32 from hF.size) hF.defers hf (l := [f 0, f 1, f 2, f 3, f 4, f 5, f 6, f 7, f 8, f 9, f 10, f 11, f 12, f 13, f 14, f 15, f 16, f 17, f 18, f 19, f 20, f 21, f 22, f 23, f 24, f 25, f 26, f 27, f 28, f 29, f 30, f 31]) rfl
   simp only [g0, g1, g2, g7, g9, g20, g21, g22, g23, g24, g25, g26, g27, g28, g29, g30, g31] at ha
   clear F hF hf g0 g1 g2 g7 g9 g20 g21 g22 g23 g24 g25 g26 g27 g28 g29 g30 g31
   subst ha
   have hJ1 := hJ
   obtain _ := hJ1
   have h1 := f11
   obtain ⟨A', m, c', rfl, hm, ho⟩ := h1
   clear f11 f2 f6 f9 f10
   have HO := Lib.hid ho
   have HM := Lib.hid hm
   clear ho hm
   have HJ := Lib.hid hJ
   clear hJ hJ1
   go_simp
   refine hK _ _ ?_
   clear hK
   go_wp2_with fail
   go_ret
   exact ⟨_, _, _, rfl, HM.out, HO.out, HJ.out⟩
  ·intro hq; exact absurd hq (by decide +kernel)
 | true =>
  have HI := Lib.hid (show [l.take k, [(g, e)], l.drop (k + 1)].flatten = ins g e l by rw [hi]; simp)
  have HK2 := Lib.hid (show k + 1 ≤ l.length by obtain ⟨q, _⟩ := HE.out.1 rfl; omega)
  have HL := Lib.hid (show [l.take k, [(g, e)], l.drop (k + 1)].flatten.length ≤ 100000 by simp; omega)
  obtain ⟨m9, hm9⟩ : ∃ m, m = k + 1 := ⟨_, rfl⟩
  rw [← hm9] at HI HK2 HL
  have em : (k : Int) + 1 = (m9 : Int) := by omega
  have hm9b : m9 ≤ 1001 := by omega
  clear hi HE hkl hl hm9
  go_enter Tryz.func92, Tryz.ntmps92
  go_wp2_with (go_at_call 84; refine HCALL.out.mono ?_; rintro e w1 ⟨rfl, hb1⟩)
  have hJ0 : Below W.heap.size W (World.drew w1) := hb1.trans (Below.refl _ _).drew
  clear hb1 HCALL em
  refine wp_region_any (by kernel_rfl) ?_
  change wpAny _ _ _ _ _ _ _ (World.drew _)
  refine Inv.inv_any (fun (i : Nat) (v : Value) (w : World) => match i with | 0 => v = .slice A l.length c | 1 => v = .int .i64 (k : Int) | 2 => SlF (l.take k) v w | 3 => v = .int .i64 g | 4 => v = .int .i64 e | 5 => v = .agg #[.int .i64 g, .int .i64 e] | 6 => SlF [(g, e)] v w | 7 => v = .slice A l.length c | 8 => v = .int .i64 (m9 : Int) | 9 => SlF (l.drop (m9)) v w | 10 => PcF [l.take k, [(g, e)], l.drop (m9)] v w | 11 => OwF W.heap.size (ins g e l) v w | _ => True) (fun w' : World => Below W.heap.size W w') _ 12 32 rfl rfl rfl (by kernel_rfl) (by kernel_rfl) hJ0 ?_ ?_ ?_ ?_
  ·intro j v w w' h hb
   match j, h with
   | 0, h => exact h
   | 1, h => exact h
   | 2, h => exact SlF.below h hb
   | 3, h => exact h
   | 4, h => exact h
   | 5, h => exact h
   | 6, h => exact SlF.below h hb
   | 7, h => exact h
   | 8, h => exact h
   | 9, h => exact SlF.below h hb
   | 10, h => exact PcF.below h hb
   | 11, h => exact OwF.below h hb
   | 12, _ => exact trivial
   | (_ + 13), _ => exact trivial
  ·skip
   refine Inv.from_cons _ _ _ _ rfl (fun _ a w hJ hF F K hK => ?_) ?_
   ·have hz : a.tmps.size = 32 := hF.size
    have e0 : a.tmps[0]? = some (.slice A l.length c) := Inv2.some_slot (by rw [hz]; exact Nat.le_of_ble_eq_true rfl) (hF.slot 0 (by kernel_rfl))
    clear F hF hz
    have hJ1 := hJ
    obtain _ := hJ1
    go_simp
    exact hK (.slice A l.length c) _ hJ (Below.refl _ _) rfl
   refine Inv.from_cons _ _ _ _ rfl (fun _ a w hJ hF F K hK => ?_) ?_
   ·have hz : a.tmps.size = 32 := hF.size
    have e7 : a.tmps[7]? = some (.int .i64 (k : Int)) := Inv2.some_slot (by rw [hz]; exact Nat.le_of_ble_eq_true rfl) (hF.slot 7 (by kernel_rfl))
    clear F hF hz
    have hJ1 := hJ
    obtain _ := hJ1
    go_simp
    exact hK (.int .i64 (k : Int)) _ hJ (Below.refl _ _) rfl
   refine Inv.from_cons _ _ _ _ rfl (fun _ a w hJ hF F K hK => ?_) ?_
   ·have hz : a.tmps.size = 32 := hF.size
    have e20 : a.tmps[20]? = some (.slice A l.length c) := Inv2.some_slot (by rw [hz]; exact Nat.le_of_ble_eq_true rfl) (F 0 (by kernel_rfl) 20 rfl)
    have e21 : a.tmps[21]? = some (.int .i64 (k : Int)) := Inv2.some_slot (by rw [hz]; exact Nat.le_of_ble_eq_true rfl) (F 1 (by kernel_rfl) 21 rfl)
    clear F hF hz
    have hJ1 := hJ
    obtain _ := hJ1
    obtain ⟨v, hrun, hv⟩ := cut_h (n := l.length) (i := k) (HR.out.belowSize hJ) HC.out HK.out
    clear hJ1
    go_simp
    exact hK _ _ hJ (Below.refl _ _) hv
   refine Inv.from_cons _ _ _ _ rfl (fun _ a w hJ hF F K hK => ?_) ?_
   ·have hz : a.tmps.size = 32 := hF.size
    have e1 : a.tmps[1]? = some (.int .i64 g) := Inv2.some_slot (by rw [hz]; exact Nat.le_of_ble_eq_true rfl) (hF.slot 1 (by kernel_rfl))
    clear F hF hz
    have hJ1 := hJ
    obtain _ := hJ1
    go_simp
    exact hK (.int .i64 g) _ hJ (Below.refl _ _) rfl
   refine Inv.from_cons _ _ _ _ rfl (fun _ a w hJ hF F K hK => ?_) ?_
   ·have hz : a.tmps.size = 32 := hF.size
    have e2 : a.tmps[2]? = some (.int .i64 e) := Inv2.some_slot (by rw [hz]; exact Nat.le_of_ble_eq_true rfl) (hF.slot 2 (by kernel_rfl))
    clear F hF hz
    have hJ1 := hJ
    obtain _ := hJ1
    go_simp
    exact hK (.int .i64 e) _ hJ (Below.refl _ _) rfl
   refine Inv.from_cons _ _ _ _ rfl (fun _ a w hJ hF F K hK => ?_) ?_
   ·have hz : a.tmps.size = 32 := hF.size
    have e23 : a.tmps[23]? = some (.int .i64 g) := Inv2.some_slot (by rw [hz]; exact Nat.le_of_ble_eq_true rfl) (F 3 (by kernel_rfl) 23 rfl)
    have e24 : a.tmps[24]? = some (.int .i64 e) := Inv2.some_slot (by rw [hz]; exact Nat.le_of_ble_eq_true rfl) (F 4 (by kernel_rfl) 24 rfl)
    clear F hF hz
    have hJ1 := hJ
    obtain _ := hJ1
    go_simp
    exact hK (.agg #[.int .i64 g, .int .i64 e]) _ hJ (Below.refl _ _) rfl
   refine Inv.from_cons _ _ _ _ rfl (fun _ a w hJ hF F K hK => ?_) ?_
   ·have hz : a.tmps.size = 32 := hF.size
    have e25 : a.tmps[25]? = some (.agg #[.int .i64 g, .int .i64 e]) := Inv2.some_slot (by rw [hz]; exact Nat.le_of_ble_eq_true rfl) (F 5 (by kernel_rfl) 25 rfl)
    clear F hF hz
    have hJ1 := hJ
    obtain _ := hJ1
    go_simp
    exact hK _ _ (bstep hJ (HS2.out _ hJ) (al _ _)) (al _ _) (sl_new w (g, e))
   refine Inv.from_cons _ _ _ _ rfl (fun _ a w hJ hF F K hK => ?_) ?_
   ·have hz : a.tmps.size = 32 := hF.size
    have e0 : a.tmps[0]? = some (.slice A l.length c) := Inv2.some_slot (by rw [hz]; exact Nat.le_of_ble_eq_true rfl) (hF.slot 0 (by kernel_rfl))
    clear F hF hz
    have hJ1 := hJ
    obtain _ := hJ1
    go_simp
    exact hK (.slice A l.length c) _ hJ (Below.refl _ _) rfl
   refine Inv.from_cons _ _ _ _ rfl (fun _ a w hJ hF F K hK => ?_) ?_
   ·have hz : a.tmps.size = 32 := hF.size
    have e9 : a.tmps[9]? = some (.int .i64 (m9 : Int)) := Inv2.some_slot (by rw [hz]; exact Nat.le_of_ble_eq_true rfl) (hF.slot 9 (by kernel_rfl))
    clear F hF hz
    have hJ1 := hJ
    obtain _ := hJ1
    clear hJ1
    go_simp
    exact hK (.int .i64 (m9 : Int)) _ hJ (Below.refl _ _) rfl
   refine Inv.from_cons _ _ _ _ rfl (fun _ a w hJ hF F K hK => ?_) ?_
   ·have hz : a.tmps.size = 32 := hF.size
    have e27 : a.tmps[27]? = some (.slice A l.length c) := Inv2.some_slot (by rw [hz]; exact Nat.le_of_ble_eq_true rfl) (F 7 (by kernel_rfl) 27 rfl)
    have e28 : a.tmps[28]? = some (.int .i64 (m9 : Int)) := Inv2.some_slot (by rw [hz]; exact Nat.le_of_ble_eq_true rfl) (F 8 (by kernel_rfl) 28 rfl)
    clear F hF hz
    have hJ1 := hJ
    obtain _ := hJ1
    obtain ⟨v, hrun, hv⟩ := cut_l (n := l.length) (i := m9) rfl (HR.out.belowSize hJ) HC.out HK2.out
    clear hJ1
    go_simp
    exact hK _ _ hJ (Below.refl _ _) hv
   refine Inv.from_cons _ _ _ _ rfl (fun _ a w hJ hF F K hK => ?_) ?_
   ·have hz : a.tmps.size = 32 := hF.size
    obtain ⟨x22, e22, f2⟩ : ∃ x, a.tmps[22]? = some x ∧ SlF (l.take k) x w := ⟨_, Inv2.some_slot (by rw [hz]; exact Nat.le_of_ble_eq_true rfl) rfl, F 2 (by kernel_rfl) 22 rfl⟩
    obtain ⟨x26, e26, f6⟩ : ∃ x, a.tmps[26]? = some x ∧ SlF [(g, e)] x w := ⟨_, Inv2.some_slot (by rw [hz]; exact Nat.le_of_ble_eq_true rfl) rfl, F 6 (by kernel_rfl) 26 rfl⟩
    obtain ⟨x29, e29, f9⟩ : ∃ x, a.tmps[29]? = some x ∧ SlF (l.drop (m9)) x w := ⟨_, Inv2.some_slot (by rw [hz]; exact Nat.le_of_ble_eq_true rfl) rfl, F 9 (by kernel_rfl) 29 rfl⟩
    clear F hF hz
    have hJ1 := hJ
    obtain _ := hJ1
    have hp := pc3 (t := 31) f2 f6 f9
    obtain ⟨_, _, _, rfl⟩ := f2.form
    obtain ⟨_, _, _, rfl⟩ := f6.form
    obtain ⟨_, _, _, rfl⟩ := f9.form
    clear f2 f6 f9
    go_simp
    exact hK _ _ (bstep hJ (HS2.out _ hJ) (al _ _)) (al _ _) hp
   refine Inv.from_cons _ _ _ _ rfl (fun _ a w hJ hF F K hK => ?_) ?_
   ·have hz : a.tmps.size = 32 := hF.size
    obtain ⟨x30, e30, f10⟩ : ∃ x, a.tmps[30]? = some x ∧ PcF [l.take k, [(g, e)], l.drop (m9)] x w := ⟨_, Inv2.some_slot (by rw [hz]; exact Nat.le_of_ble_eq_true rfl) rfl, F 10 (by kernel_rfl) 30 rfl⟩
    clear F hF hz
    have hJ1 := hJ
    obtain _ := hJ1
    have hh := catF w x30 _ W.heap.size (HS2.out _ hJ) f10 HL.out (by simp)
    obtain ⟨P, m, c', rfl⟩ := f10.form
    clear f10
    rw [HI.out] at hh
    go_simp
    refine hh.mono ?_
    rintro e' w' ⟨A', m', c'', rfl, hA, hb⟩
    go_simp
    exact hK _ _ (bstep hJ (HS2.out _ hJ) hb) hb hA
   refine Inv.from_skip _ _ _ _ rfl ?_
   exact Inv.from_end _ _ _ _ (by decide +kernel)
  ·intro o ho a w hJ hF F K hK
   injection (show some _ = some o from ho) with ho
   subst ho
   obtain ⟨f, hf⟩ : ∃ f : Nat → Value, ∀ i, a.tmps.getD i undef = f i := ⟨_, fun _ => rfl⟩
   have g0 : f 0 = (.slice A l.length c) := (hf 0).symm.trans (hF.slot 0 (by kernel_rfl))
   have g1 : f 1 = (.int .i64 g) := (hf 1).symm.trans (hF.slot 1 (by kernel_rfl))
   have g2 : f 2 = (.int .i64 e) := (hf 2).symm.trans (hF.slot 2 (by kernel_rfl))
   have g7 : f 7 = (.int .i64 (k : Int)) := (hf 7).symm.trans (hF.slot 7 (by kernel_rfl))
   have g9 : f 9 = (.int .i64 (m9 : Int)) := (hf 9).symm.trans (hF.slot 9 (by kernel_rfl))
   have g20 : f 20 = (.slice A l.length c) := (hf 20).symm.trans (F 0 (by decide) 20 rfl)
   have g21 : f 21 = (.int .i64 (k : Int)) := (hf 21).symm.trans (F 1 (by decide) 21 rfl)
   obtain ⟨x22, g22⟩ : ∃ x, f 22 = x := ⟨_, rfl⟩
   have f2 : SlF (l.take k) x22 w := by rw [← g22, ← hf 22]; exact F 2 (by decide) 22 rfl
   have g23 : f 23 = (.int .i64 g) := (hf 23).symm.trans (F 3 (by decide) 23 rfl)
   have g24 : f 24 = (.int .i64 e) := (hf 24).symm.trans (F 4 (by decide) 24 rfl)
   have g25 : f 25 = (.agg #[.int .i64 g, .int .i64 e]) := (hf 25).symm.trans (F 5 (by decide) 25 rfl)
   obtain ⟨x26, g26⟩ : ∃ x, f 26 = x := ⟨_, rfl⟩
   have f6 : SlF [(g, e)] x26 w := by rw [← g26, ← hf 26]; exact F 6 (by decide) 26 rfl
   have g27 : f 27 = (.slice A l.length c) := (hf 27).symm.trans (F 7 (by decide) 27 rfl)
   have g28 : f 28 = (.int .i64 (m9 : Int)) := (hf 28).symm.trans (F 8 (by decide) 28 rfl)
   obtain ⟨x29, g29⟩ : ∃ x, f 29 = x := ⟨_, rfl⟩
   have f9 : SlF (l.drop (m9)) x29 w := by rw [← g29, ← hf 29]; exact F 9 (by decide) 29 rfl
   obtain ⟨x30, g30⟩ : ∃ x, f 30 = x := ⟨_, rfl⟩
   have f10 : PcF [l.take k, [(g, e)], l.drop (m9)] x30 w := by rw [← g30, ← hf 30]; exact F 10 (by decide) 30 rfl
   obtain ⟨x31, g31⟩ : ∃ x, f 31 = x := ⟨_, rfl⟩
   have f11 : OwF W.heap.size (ins g e l) x31 w := by rw [← g31, ← hf 31]; exact F 11 (by decide) 31 rfl
   have ha := Frames.frame (show a.tmps.size = 32 from hF.size) hF.defers hf (l := [f 0, f 1, f 2, f 3, f 4, f 5, f 6, f 7, f 8, f 9, f 10, f 11, f 12, f 13, f 14, f 15, f 16, f 17, f 18, f 19, f 20, f 21, f 22, f 23, f 24, f 25, f 26, f 27, f 28, f 29, f 30, f 31]) rfl
   simp only [g0, g1, g2, g7, g9, g20, g21, g22, g23, g24, g25, g26, g27, g28, g29, g30, g31] at ha
   clear F hF hf g0 g1 g2 g7 g9 g20 g21 g22 g23 g24 g25 g26 g27 g28 g29 g30 g31
   subst ha
   have hJ1 := hJ
   obtain _ := hJ1
   have h1 := f11
   obtain ⟨A', m, c', rfl, hm, ho⟩ := h1
   clear f11 f2 f6 f9 f10
   have HO := Lib.hid ho
   have HM := Lib.hid hm
   clear ho hm
   have HJ := Lib.hid hJ
   clear hJ hJ1
   go_simp
   refine hK _ _ ?_
   clear hK
   go_wp2_with fail
   go_ret
   exact ⟨_, _, _, rfl, HM.out, HO.out, HJ.out⟩
  ·intro hq; exact absurd hq (by decide +kernel)

set_option maxRecDepth 100000 in
set_option maxHeartbeats 3200000 in
theorem take_any (W : World) (A : Option Addr) (n c : Nat) (l : Fs) (o : Int) (hn : n = l.length) (hc : l.length ≤ c) (hr : Row W W.heap.size A (fr l)) (hl : l.length ≤ 1000) :
  Calls Tryz.prog 80 #[.slice A n c, .int .i64 o] W fun r w' => ∃ A' m c', r = .returned (.tuple #[.int .i64 ((first o l).1.getD 0), .slice A' m c', .bool (first o l).1.isSome]) ∧ m = (first o l).2.length ∧ OwnF w' W.heap.size A' c' (first o l).2 ∧ Below W.heap.size W w' := by
 subst hn
 have HR := Lib.hid hr
 have HC := Lib.hid hc
 have HAT := Lib.hid (at_any W o)
 have b1 := al W (.cells #[.int .i64 o] 3)
 have HIX := Lib.hid (fun (r : Int) (h : At o l r) => index_at (W.alloc (.cells #[.int .i64 o] 3)) A l.length c l o W.heap.size h rfl (hr.belowSize b1) (by omega) (by simp) (by simp))
 have HS2 := Lib.hid (fun (w : World) (h : Below W.heap.size W w) => h.size)
 rcases at_ex o l with h | ⟨k, h, hk⟩
 ·have e1 := at_none h
  rw [e1]
  have HCALL := Lib.hid (HIX.out _ h)
  clear HIX h e1
  have HP := Lib.hid (show SlF l (.slice A l.length c) W from ⟨A, c, rfl, hc, hr⟩)
  clear hr hc
  have HAT2 := Lib.hid (show Calls Tryz.prog 109 #[.int .i64 o] W fun e w' => e = .returned (clo W.heap.size) ∧ w' = W.alloc (.cells #[.int .i64 o] 3) from HAT.out)
  generalize W.alloc (.cells #[.int .i64 o] 3) = W1 at *
  unfold clo at *
  go_enter Tryz.func80, Tryz.ntmps80
  go_wp2_with (first | (go_at_call 109; refine HAT2.out.mono ?_; rintro e w1 ⟨rfl, rfl⟩) | (go_at_call 102; refine HCALL.out.mono ?_; rintro e w2 ⟨rfl, hb2⟩) | (go_at_call 110; refine (catF _ _ [l] W.heap.size (Nat.le_trans (b1.trans (hb2.mono b1.size)).size (al _ _).size) (pc1 (HP.out.below (b1.trans (hb2.mono b1.size)))) (by simp; omega) (by simp)).mono ?_; rintro e w3 ⟨A', m, c', rfl, ho, hb3⟩))
  go_ret3
  obtain ⟨A2, m2, c2, e, hm, ho⟩ := ho
  have hf : [l].flatten = l := by simp
  rw [hf] at hm ho
  injection e with q1 q2 q3
  subst q1 q2 q3
  exact ⟨_, _, _, rfl, hm, ho, bstep (b1.trans (hb2.mono b1.size)) (by have := (b1.trans (hb2.mono b1.size)).size; simpa using this) ((al _ _).trans (hb3.mono (al _ _).size))⟩
 ·have e1 := at_some hk h
  have HCALL := Lib.hid (HIX.out _ h)
  clear HIX h
  obtain ⟨ad, hA, hblk, hc1, _⟩ := row_at hr k hk
  subst hA
  have HBK := Lib.hid (show (ad.add (k * 2)).block < W.heap.size by rw [blk_add]; exact hblk)
  have HC1 := Lib.hid hc1
  have HI := Lib.hid (show [l.take k, l.drop (k + 1)].flatten = l.take k ++ l.drop (k + 1) by simp)
  have HL := Lib.hid (show [l.take k, l.drop (k + 1)].flatten.length ≤ 100000 by simp; omega)
  have HK := Lib.hid (Nat.le_of_lt hk)
  have HK2 := Lib.hid (show k + 1 ≤ l.length from hk)
  rw [e1]
  obtain ⟨m9, hm9⟩ : ∃ m, m = k + 1 := ⟨_, rfl⟩
  rw [← hm9] at HI HK2 HL
  rw [← hm9]
  have HM9 := Lib.hid (show (k : Int) + 1 = (m9 : Int) by omega)
  have hm9b : m9 ≤ 1001 := by omega
  clear hm9
  show Calls _ _ _ _ fun r w' => ∃ A' m c', r = .returned (.tuple #[.int .i64 (l[k]).1, .slice A' m c', .bool true]) ∧ m = (l.take k ++ l.drop m9).length ∧ OwnF w' W.heap.size A' c' (l.take k ++ l.drop m9) ∧ Below W.heap.size W w'
  clear hr hc hc1 e1
  generalize (l[k]).1 = p1 at *
  generalize l.take k ++ l.drop m9 = R at *
  generalize W.alloc (.cells #[.int .i64 o] 3) = W1 at *
  unfold clo at *
  go_enter Tryz.func80, Tryz.ntmps80
  go_wp2_with (first | (go_at_call 109; refine HAT.out.mono ?_; rintro e w1 ⟨rfl, rfl⟩) | (go_at_call 102; refine HCALL.out.mono ?_; rintro e w2 ⟨rfl, hb2⟩))
  have hJ0 : Below W.heap.size W (World.drew w2) := (b1.trans (hb2.mono b1.size)).trans (Below.refl _ _).drew
  clear hb2 b1 HCALL
  refine wp_region_any (by kernel_rfl) ?_
  change wpAny _ _ _ _ _ _ _ (World.drew _)
  refine Inv.inv_any (fun (i : Nat) (v : Value) (w : World) => match i with | 0 => v = .slice (some ad) l.length c | 1 => v = .int .i64 (k : Int) | 2 => v = .pointer (some (ad.add (k * 2))) | 3 => v = .pointer (some (ad.add (k * 2))) | 4 => v = .int .i64 p1 | 5 => v = .slice (some ad) l.length c | 6 => v = .int .i64 (k : Int) | 7 => SlF (l.take k) v w | 8 => v = .slice (some ad) l.length c | 9 => v = .int .i64 (k : Int) | 10 => v = .int .i64 (m9 : Int) | 11 => SlF (l.drop m9) v w | 12 => PcF [l.take k, l.drop m9] v w | 13 => OwF W.heap.size R v w | 14 => v = .int .i64 p1 | 15 => OwF W.heap.size R v w | _ => True) (fun w' : World => Below W.heap.size W w') _ 16 31 rfl rfl rfl (by kernel_rfl) (by kernel_rfl) hJ0 ?_ ?_ ?_ ?_
  ·intro j v w w' h hb
   match j, h with
   | 0, h => exact h
   | 1, h => exact h
   | 2, h => exact h
   | 3, h => exact h
   | 4, h => exact h
   | 5, h => exact h
   | 6, h => exact h
   | 7, h => exact SlF.below h hb
   | 8, h => exact h
   | 9, h => exact h
   | 10, h => exact h
   | 11, h => exact SlF.below h hb
   | 12, h => exact PcF.below h hb
   | 13, h => exact OwF.below h hb
   | 14, h => exact h
   | 15, h => exact OwF.below h hb
   | 16, _ => exact trivial
   | (_ + 17), _ => exact trivial
  ·skip
   refine Inv.from_cons _ _ _ _ rfl (fun _ a w hJ hF F K hK => ?_) ?_
   ·have hz : a.tmps.size = 31 := hF.size
    have e0 : a.tmps[0]? = some (.slice (some ad) l.length c) := Inv2.some_slot (by rw [hz]; exact Nat.le_of_ble_eq_true rfl) (hF.slot 0 (by kernel_rfl))
    clear F hF hz
    have hJ1 := hJ
    obtain _ := hJ1
    go_simp
    exact hK (.slice (some ad) l.length c) _ hJ (Below.refl _ _) rfl
   refine Inv.from_cons _ _ _ _ rfl (fun _ a w hJ hF F K hK => ?_) ?_
   ·have hz : a.tmps.size = 31 := hF.size
    have e7 : a.tmps[7]? = some (.int .i64 (k : Int)) := Inv2.some_slot (by rw [hz]; exact Nat.le_of_ble_eq_true rfl) (hF.slot 7 (by kernel_rfl))
    clear F hF hz
    have hJ1 := hJ
    obtain _ := hJ1
    go_simp
    exact hK (.int .i64 (k : Int)) _ hJ (Below.refl _ _) rfl
   refine Inv.from_cons _ _ _ _ rfl (fun _ a w hJ hF F K hK => ?_) ?_
   ·have hz : a.tmps.size = 31 := hF.size
    have e17 : a.tmps[17]? = some (.slice (some ad) l.length c) := Inv2.some_slot (by rw [hz]; exact Nat.le_of_ble_eq_true rfl) (F 0 (by kernel_rfl) 17 rfl)
    have e18 : a.tmps[18]? = some (.int .i64 (k : Int)) := Inv2.some_slot (by rw [hz]; exact Nat.le_of_ble_eq_true rfl) (F 1 (by kernel_rfl) 18 rfl)
    clear F hF hz
    have hJ1 := hJ
    obtain _ := hJ1
    go_simp
    exact hK _ _ hJ (Below.refl _ _) rfl
   refine Inv.from_cons _ _ _ _ rfl (fun _ a w hJ hF F K hK => ?_) ?_
   ·have hz : a.tmps.size = 31 := hF.size
    have e19 : a.tmps[19]? = some (.pointer (some (ad.add (k * 2)))) := Inv2.some_slot (by rw [hz]; exact Nat.le_of_ble_eq_true rfl) (F 2 (by kernel_rfl) 19 rfl)
    clear F hF hz
    have hJ1 := hJ
    obtain _ := hJ1
    go_simp
    exact hK _ _ hJ (Below.refl _ _) rfl
   refine Inv.from_cons _ _ _ _ rfl (fun _ a w hJ hF F K hK => ?_) ?_
   ·have hz : a.tmps.size = 31 := hF.size
    have e20 : a.tmps[20]? = some (.pointer (some (ad.add (k * 2)))) := Inv2.some_slot (by rw [hz]; exact Nat.le_of_ble_eq_true rfl) (F 3 (by kernel_rfl) 20 rfl)
    clear F hF hz
    have hJ1 := hJ
    obtain _ := hJ1
    have cc1 := (hJ.cell (p := ad.add (k * 2)) HBK.out).trans HC1.out
    clear hJ1
    go_simp
    exact hK _ _ hJ (Below.refl _ _) rfl
   refine Inv.from_cons _ _ _ _ rfl (fun _ a w hJ hF F K hK => ?_) ?_
   ·have hz : a.tmps.size = 31 := hF.size
    have e0 : a.tmps[0]? = some (.slice (some ad) l.length c) := Inv2.some_slot (by rw [hz]; exact Nat.le_of_ble_eq_true rfl) (hF.slot 0 (by kernel_rfl))
    clear F hF hz
    have hJ1 := hJ
    obtain _ := hJ1
    go_simp
    exact hK (.slice (some ad) l.length c) _ hJ (Below.refl _ _) rfl
   refine Inv.from_cons _ _ _ _ rfl (fun _ a w hJ hF F K hK => ?_) ?_
   ·have hz : a.tmps.size = 31 := hF.size
    have e7 : a.tmps[7]? = some (.int .i64 (k : Int)) := Inv2.some_slot (by rw [hz]; exact Nat.le_of_ble_eq_true rfl) (hF.slot 7 (by kernel_rfl))
    clear F hF hz
    have hJ1 := hJ
    obtain _ := hJ1
    go_simp
    exact hK (.int .i64 (k : Int)) _ hJ (Below.refl _ _) rfl
   refine Inv.from_cons _ _ _ _ rfl (fun _ a w hJ hF F K hK => ?_) ?_
   ·have hz : a.tmps.size = 31 := hF.size
    have e22 : a.tmps[22]? = some (.slice (some ad) l.length c) := Inv2.some_slot (by rw [hz]; exact Nat.le_of_ble_eq_true rfl) (F 5 (by kernel_rfl) 22 rfl)
    have e23 : a.tmps[23]? = some (.int .i64 (k : Int)) := Inv2.some_slot (by rw [hz]; exact Nat.le_of_ble_eq_true rfl) (F 6 (by kernel_rfl) 23 rfl)
    clear F hF hz
    have hJ1 := hJ
    obtain _ := hJ1
    obtain ⟨v, hrun, hv⟩ := cut_h (n := l.length) (i := k) (HR.out.belowSize hJ) HC.out HK.out
    clear hJ1
    go_simp
    exact hK _ _ hJ (Below.refl _ _) hv
   refine Inv.from_cons _ _ _ _ rfl (fun _ a w hJ hF F K hK => ?_) ?_
   ·have hz : a.tmps.size = 31 := hF.size
    have e0 : a.tmps[0]? = some (.slice (some ad) l.length c) := Inv2.some_slot (by rw [hz]; exact Nat.le_of_ble_eq_true rfl) (hF.slot 0 (by kernel_rfl))
    clear F hF hz
    have hJ1 := hJ
    obtain _ := hJ1
    go_simp
    exact hK (.slice (some ad) l.length c) _ hJ (Below.refl _ _) rfl
   refine Inv.from_cons _ _ _ _ rfl (fun _ a w hJ hF F K hK => ?_) ?_
   ·have hz : a.tmps.size = 31 := hF.size
    have e7 : a.tmps[7]? = some (.int .i64 (k : Int)) := Inv2.some_slot (by rw [hz]; exact Nat.le_of_ble_eq_true rfl) (hF.slot 7 (by kernel_rfl))
    clear F hF hz
    have hJ1 := hJ
    obtain _ := hJ1
    go_simp
    exact hK (.int .i64 (k : Int)) _ hJ (Below.refl _ _) rfl
   refine Inv.from_cons _ _ _ _ rfl (fun _ a w hJ hF F K hK => ?_) ?_
   ·have hz : a.tmps.size = 31 := hF.size
    have e26 : a.tmps[26]? = some (.int .i64 (k : Int)) := Inv2.some_slot (by rw [hz]; exact Nat.le_of_ble_eq_true rfl) (F 9 (by kernel_rfl) 26 rfl)
    clear F hF hz
    have hJ1 := hJ
    obtain _ := hJ1
    have em := HM9.out
    have ew : IntKind.i64.wrap (m9 : Int) = (m9 : Int) := by rw [IntKind.wrap_i64]; omega
    clear hJ1
    go_simp
    exact hK (.int .i64 (m9 : Int)) _ hJ (Below.refl _ _) rfl
   refine Inv.from_cons _ _ _ _ rfl (fun _ a w hJ hF F K hK => ?_) ?_
   ·have hz : a.tmps.size = 31 := hF.size
    have e25 : a.tmps[25]? = some (.slice (some ad) l.length c) := Inv2.some_slot (by rw [hz]; exact Nat.le_of_ble_eq_true rfl) (F 8 (by kernel_rfl) 25 rfl)
    have e27 : a.tmps[27]? = some (.int .i64 (m9 : Int)) := Inv2.some_slot (by rw [hz]; exact Nat.le_of_ble_eq_true rfl) (F 10 (by kernel_rfl) 27 rfl)
    clear F hF hz
    have hJ1 := hJ
    obtain _ := hJ1
    obtain ⟨v, hrun, hv⟩ := cut_l (n := l.length) (i := m9) rfl (HR.out.belowSize hJ) HC.out HK2.out
    clear hJ1
    go_simp
    exact hK _ _ hJ (Below.refl _ _) hv
   refine Inv.from_cons _ _ _ _ rfl (fun _ a w hJ hF F K hK => ?_) ?_
   ·have hz : a.tmps.size = 31 := hF.size
    obtain ⟨x24, e24, f7⟩ : ∃ x, a.tmps[24]? = some x ∧ SlF (l.take k) x w := ⟨_, Inv2.some_slot (by rw [hz]; exact Nat.le_of_ble_eq_true rfl) rfl, F 7 (by kernel_rfl) 24 rfl⟩
    obtain ⟨x28, e28, f11⟩ : ∃ x, a.tmps[28]? = some x ∧ SlF (l.drop m9) x w := ⟨_, Inv2.some_slot (by rw [hz]; exact Nat.le_of_ble_eq_true rfl) rfl, F 11 (by kernel_rfl) 28 rfl⟩
    clear F hF hz
    have hJ1 := hJ
    obtain _ := hJ1
    have hp := pc2 (t := 31) f7 f11
    obtain ⟨_, _, _, rfl⟩ := f7.form
    obtain ⟨_, _, _, rfl⟩ := f11.form
    clear f7 f11
    go_simp
    exact hK _ _ (bstep hJ (HS2.out _ hJ) (al _ _)) (al _ _) hp
   refine Inv.from_cons _ _ _ _ rfl (fun _ a w hJ hF F K hK => ?_) ?_
   ·have hz : a.tmps.size = 31 := hF.size
    obtain ⟨x29, e29, f12⟩ : ∃ x, a.tmps[29]? = some x ∧ PcF [l.take k, l.drop m9] x w := ⟨_, Inv2.some_slot (by rw [hz]; exact Nat.le_of_ble_eq_true rfl) rfl, F 12 (by kernel_rfl) 29 rfl⟩
    clear F hF hz
    have hJ1 := hJ
    obtain _ := hJ1
    have hh := catF w x29 _ W.heap.size (HS2.out _ hJ) f12 HL.out (by simp)
    obtain ⟨P, m, c', rfl⟩ := f12.form
    clear f12
    rw [HI.out] at hh
    go_simp
    refine hh.mono ?_
    rintro e' w' ⟨A', m', c'', rfl, hA, hb⟩
    go_simp
    exact hK _ _ (bstep hJ (HS2.out _ hJ) hb) hb hA
   refine Inv.from_cons _ _ _ _ rfl (fun _ a w hJ hF F K hK => ?_) ?_
   ·have hz : a.tmps.size = 31 := hF.size
    have e17 : a.tmps[17]? = some (.slice (some ad) l.length c) := Inv2.some_slot (by rw [hz]; exact Nat.le_of_ble_eq_true rfl) (F 0 (by kernel_rfl) 17 rfl)
    have e18 : a.tmps[18]? = some (.int .i64 (k : Int)) := Inv2.some_slot (by rw [hz]; exact Nat.le_of_ble_eq_true rfl) (F 1 (by kernel_rfl) 18 rfl)
    have e19 : a.tmps[19]? = some (.pointer (some (ad.add (k * 2)))) := Inv2.some_slot (by rw [hz]; exact Nat.le_of_ble_eq_true rfl) (F 2 (by kernel_rfl) 19 rfl)
    have e20 : a.tmps[20]? = some (.pointer (some (ad.add (k * 2)))) := Inv2.some_slot (by rw [hz]; exact Nat.le_of_ble_eq_true rfl) (F 3 (by kernel_rfl) 20 rfl)
    have e21 : a.tmps[21]? = some (.int .i64 p1) := Inv2.some_slot (by rw [hz]; exact Nat.le_of_ble_eq_true rfl) (F 4 (by kernel_rfl) 21 rfl)
    obtain ⟨x30, e30, f13⟩ : ∃ x, a.tmps[30]? = some x ∧ OwF W.heap.size R x w := ⟨_, Inv2.some_slot (by rw [hz]; exact Nat.le_of_ble_eq_true rfl) rfl, F 13 (by kernel_rfl) 30 rfl⟩
    clear F hF hz
    have hJ1 := hJ
    obtain _ := hJ1
    go_simp
    exact hK (.int .i64 p1) _ hJ (Below.refl _ _) rfl
   refine Inv.from_cons _ _ _ _ rfl (fun _ a w hJ hF F K hK => ?_) ?_
   ·have hz : a.tmps.size = 31 := hF.size
    have e17 : a.tmps[17]? = some (.slice (some ad) l.length c) := Inv2.some_slot (by rw [hz]; exact Nat.le_of_ble_eq_true rfl) (F 0 (by kernel_rfl) 17 rfl)
    have e18 : a.tmps[18]? = some (.int .i64 (k : Int)) := Inv2.some_slot (by rw [hz]; exact Nat.le_of_ble_eq_true rfl) (F 1 (by kernel_rfl) 18 rfl)
    have e19 : a.tmps[19]? = some (.pointer (some (ad.add (k * 2)))) := Inv2.some_slot (by rw [hz]; exact Nat.le_of_ble_eq_true rfl) (F 2 (by kernel_rfl) 19 rfl)
    have e20 : a.tmps[20]? = some (.pointer (some (ad.add (k * 2)))) := Inv2.some_slot (by rw [hz]; exact Nat.le_of_ble_eq_true rfl) (F 3 (by kernel_rfl) 20 rfl)
    have e21 : a.tmps[21]? = some (.int .i64 p1) := Inv2.some_slot (by rw [hz]; exact Nat.le_of_ble_eq_true rfl) (F 4 (by kernel_rfl) 21 rfl)
    have e22 : a.tmps[22]? = some (.slice (some ad) l.length c) := Inv2.some_slot (by rw [hz]; exact Nat.le_of_ble_eq_true rfl) (F 5 (by kernel_rfl) 22 rfl)
    have e23 : a.tmps[23]? = some (.int .i64 (k : Int)) := Inv2.some_slot (by rw [hz]; exact Nat.le_of_ble_eq_true rfl) (F 6 (by kernel_rfl) 23 rfl)
    obtain ⟨x24, e24, f7⟩ : ∃ x, a.tmps[24]? = some x ∧ SlF (l.take k) x w := ⟨_, Inv2.some_slot (by rw [hz]; exact Nat.le_of_ble_eq_true rfl) rfl, F 7 (by kernel_rfl) 24 rfl⟩
    have e25 : a.tmps[25]? = some (.slice (some ad) l.length c) := Inv2.some_slot (by rw [hz]; exact Nat.le_of_ble_eq_true rfl) (F 8 (by kernel_rfl) 25 rfl)
    have e26 : a.tmps[26]? = some (.int .i64 (k : Int)) := Inv2.some_slot (by rw [hz]; exact Nat.le_of_ble_eq_true rfl) (F 9 (by kernel_rfl) 26 rfl)
    have e27 : a.tmps[27]? = some (.int .i64 (m9 : Int)) := Inv2.some_slot (by rw [hz]; exact Nat.le_of_ble_eq_true rfl) (F 10 (by kernel_rfl) 27 rfl)
    obtain ⟨x28, e28, f11⟩ : ∃ x, a.tmps[28]? = some x ∧ SlF (l.drop m9) x w := ⟨_, Inv2.some_slot (by rw [hz]; exact Nat.le_of_ble_eq_true rfl) rfl, F 11 (by kernel_rfl) 28 rfl⟩
    obtain ⟨x29, e29, f12⟩ : ∃ x, a.tmps[29]? = some x ∧ PcF [l.take k, l.drop m9] x w := ⟨_, Inv2.some_slot (by rw [hz]; exact Nat.le_of_ble_eq_true rfl) rfl, F 12 (by kernel_rfl) 29 rfl⟩
    obtain ⟨x30, e30, f13⟩ : ∃ x, a.tmps[30]? = some x ∧ OwF W.heap.size R x w := ⟨_, Inv2.some_slot (by rw [hz]; exact Nat.le_of_ble_eq_true rfl) rfl, F 13 (by kernel_rfl) 30 rfl⟩
    have e4 : a.tmps[4]? = some (.int .i64 p1) := Inv2.some_slot (by rw [hz]; exact Nat.le_of_ble_eq_true rfl) (F 14 (by kernel_rfl) 4 rfl)
    clear F hF hz
    have hJ1 := hJ
    obtain _ := hJ1
    obtain ⟨P, m, c', rfl⟩ := f13.form
    go_simp
    exact hK _ _ hJ (Below.refl _ _) f13
   refine Inv.from_skip _ _ _ _ rfl ?_
   exact Inv.from_end _ _ _ _ (by decide +kernel)
  ·intro o ho a w hJ hF F K hK
   injection (show some _ = some o from ho) with ho
   subst ho
   obtain ⟨f, hf⟩ : ∃ f : Nat → Value, ∀ i, a.tmps.getD i undef = f i := ⟨_, fun _ => rfl⟩
   have g0 : f 0 = (.slice (some ad) l.length c) := (hf 0).symm.trans (hF.slot 0 (by kernel_rfl))
   have g1 : f 1 = (.int .i64 o) := (hf 1).symm.trans (hF.slot 1 (by kernel_rfl))
   have g7 : f 7 = (.int .i64 (k : Int)) := (hf 7).symm.trans (hF.slot 7 (by kernel_rfl))
   have g17 : f 17 = (.slice (some ad) l.length c) := (hf 17).symm.trans (F 0 (by decide) 17 rfl)
   have g18 : f 18 = (.int .i64 (k : Int)) := (hf 18).symm.trans (F 1 (by decide) 18 rfl)
   have g19 : f 19 = (.pointer (some (ad.add (k * 2)))) := (hf 19).symm.trans (F 2 (by decide) 19 rfl)
   have g20 : f 20 = (.pointer (some (ad.add (k * 2)))) := (hf 20).symm.trans (F 3 (by decide) 20 rfl)
   have g21 : f 21 = (.int .i64 p1) := (hf 21).symm.trans (F 4 (by decide) 21 rfl)
   have g22 : f 22 = (.slice (some ad) l.length c) := (hf 22).symm.trans (F 5 (by decide) 22 rfl)
   have g23 : f 23 = (.int .i64 (k : Int)) := (hf 23).symm.trans (F 6 (by decide) 23 rfl)
   obtain ⟨x24, g24⟩ : ∃ x, f 24 = x := ⟨_, rfl⟩
   have f7 : SlF (l.take k) x24 w := by rw [← g24, ← hf 24]; exact F 7 (by decide) 24 rfl
   have g25 : f 25 = (.slice (some ad) l.length c) := (hf 25).symm.trans (F 8 (by decide) 25 rfl)
   have g26 : f 26 = (.int .i64 (k : Int)) := (hf 26).symm.trans (F 9 (by decide) 26 rfl)
   have g27 : f 27 = (.int .i64 (m9 : Int)) := (hf 27).symm.trans (F 10 (by decide) 27 rfl)
   obtain ⟨x28, g28⟩ : ∃ x, f 28 = x := ⟨_, rfl⟩
   have f11 : SlF (l.drop m9) x28 w := by rw [← g28, ← hf 28]; exact F 11 (by decide) 28 rfl
   obtain ⟨x29, g29⟩ : ∃ x, f 29 = x := ⟨_, rfl⟩
   have f12 : PcF [l.take k, l.drop m9] x29 w := by rw [← g29, ← hf 29]; exact F 12 (by decide) 29 rfl
   obtain ⟨x30, g30⟩ : ∃ x, f 30 = x := ⟨_, rfl⟩
   have f13 : OwF W.heap.size R x30 w := by rw [← g30, ← hf 30]; exact F 13 (by decide) 30 rfl
   have g4 : f 4 = (.int .i64 p1) := (hf 4).symm.trans (F 14 (by decide) 4 rfl)
   obtain ⟨x5, g5⟩ : ∃ x, f 5 = x := ⟨_, rfl⟩
   have f15 : OwF W.heap.size R x5 w := by rw [← g5, ← hf 5]; exact F 15 (by decide) 5 rfl
   have ha := Frames.frame (show a.tmps.size = 31 from hF.size) hF.defers hf (l := [f 0, f 1, f 2, f 3, f 4, f 5, f 6, f 7, f 8, f 9, f 10, f 11, f 12, f 13, f 14, f 15, f 16, f 17, f 18, f 19, f 20, f 21, f 22, f 23, f 24, f 25, f 26, f 27, f 28, f 29, f 30]) rfl
   simp only [g0, g1, g7, g17, g18, g19, g20, g21, g22, g23, g24, g25, g26, g27, g28, g29, g30, g4, g5] at ha
   clear F hF hf g0 g1 g7 g17 g18 g19 g20 g21 g22 g23 g24 g25 g26 g27 g28 g29 g30 g4 g5
   subst ha
   have hJ1 := hJ
   obtain _ := hJ1
   have h1 := f15
   obtain ⟨A', m, c', rfl, hm, ho⟩ := h1
   clear f15 f7 f11 f12 f13
   have HO := Lib.hid ho
   have HM := Lib.hid hm
   clear ho hm
   have HJ := Lib.hid hJ
   clear hJ hJ1
   go_simp
   refine hK _ _ ?_
   clear hK
   go_wp2_with fail
   go_ret3
   exact ⟨_, _, _, rfl, HM.out, HO.out, HJ.out⟩
  ·intro hq; exact absurd hq (by decide +kernel)
end Go.Proofs.YtpidnkfcccboaaaGreat.FreePut
