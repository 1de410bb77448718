/- PagerStays is proved: for every input the statement answers true, and what was handed in reads as before. Conditions: none. -/
import Derived.Test.YtpidnkfcccboaaaGreatKPagerPlumb
import Derived.Test.YtpidnkfcccboaaaGreatKPagerReal
import Derived.Test.YtpidnkfcccboaaaGreatKPagerStays
import Derived.Test.YtpidnkfcccboaaaGreatKPlumb
import Derived.Test.YtpidnkfcccboaaaGreatRows
import Derived.ProofKit
namespace Go.Proofs.YtpidnkfcccboaaaGreat.PPagerStays
open Go.ChangeShapes Go.WideShapes Go.ChangeAt Go.RowKit Base Plumb
open Go.ChangeMaps (open_string shut_string)

theorem own : ownKnob Tryz.prog.godebug = none := by kernel_rfl
theorem laidOut : laidOutB Tryz.prog = true := by kernel_rfl
theorem cells_string : Tryz.prog.cellsOf 9 = 1 := by kernel_rfl

set_option maxRecDepth 100000 in
set_option maxHeartbeats 12800000 in
theorem PagerStays_lifted (os : Os) (started : os.Started) (H : Type) (enc : TypeId × Value → H) :
  ReturnsInHanded {} Tryz.checked os 5 .any (Rows.pagerStaysSpec.pre6 enc Tryz.prog Tryz.f5 Rows.pagerStaysRow.domain false) (Rows.pagerStaysSpec.post enc Tryz.prog Tryz.f5 false true false false) := by
 refine returnsInHanded_of_change (C := Tryz.checked) own started (by kernel_rfl) Tryz.func5
  (ChangeSpec.witness6 (enc := enc) (C := Tryz.checked) false ⟨#[], #[.slice none 0 0, .slice none 0 0], []⟩ 8 (by kernel_rfl) (by kernel_rfl) (by kernel_rfl) (by kernel_rfl)) ?_
 intro W base args ds gs before hval0 hW _ _
 have hval : ∀ (j : Nat) t v, Tryz.f5.params[j]? = some t → args[j]? = some v → Value.okWide Tryz.prog W .any base t v := hval0
 have hW' := hW
 obtain ⟨p, q, hA0, hV, rfl, hfz, hnd⟩ := hW
 have hA : DataW.TrodAll enc Tryz.prog W 0 (fun _ => true) true Tryz.f5.params.toList args.toList ds p := hA0
 rw [Tryz.params5] at hA hval
 obtain ⟨v0, vs0, d0, ds0, p0, q0, hargs, rfl, rfl, h0, r0⟩ := trodAll_cons hA
 obtain ⟨v1, vs1, d1, ds1, p1, q1, rfl, rfl, rfl, h1, r1⟩ := trodAll_cons r0
 obtain ⟨rfl, rfl, rfl⟩ := trodAll_nil r1
 obtain rfl : args = #[v0, v1] := by cases args; simp_all
 obtain ⟨rfl, rfl⟩ := trodVars_none hV
 obtain ⟨_, _, _, rfl⟩ := okWide_slice Tryz.underlying22 (hval 0 22 v0 rfl rfl)
 obtain ⟨fu0, hf0⟩ := h0
 obtain ⟨A0, c0, xs0, he0, hr0, hn0⟩ := PagerPlumb.open_acts hf0
 injection he0 with ea0 eb0 ec0
 subst ea0 eb0 ec0
 obtain ⟨_, _, _, rfl⟩ := okWide_slice Tryz.underlying22 (hval 1 22 v1 rfl rfl)
 obtain ⟨fu1, hf1⟩ := h1
 obtain ⟨A1, c1, xs1, he1, hr1, hn1⟩ := PagerPlumb.open_acts hf1
 injection he1 with ea1 eb1 ec1
 subst ea1 eb1 ec1
 clear hA0 hval0
 simp only [List.append_nil] at hW'
 refine (PagerStays.stays_any PagerCode.real W _ _ _ _ xs0 xs1 hr0 hr1 hn0 hn1).mono fun e W' ⟨he, hb⟩ => ?_
 subst he
 exact ⟨_, rfl, law_post laidOut (by kernel_rfl) rfl rfl rfl Tryz.underlying4 hW' hb⟩

set_option maxRecDepth 100000 in
set_option maxHeartbeats 12800000 in
/-- the statement, for every input. -/
theorem PagerStays_holds : Rows.PagerStaysSaid :=
 OpenClaim.holds_of_wide 5 Tryz.f5 rfl rfl rfl rfl rfl rfl rfl ⟨rfl, rfl, rfl, rfl, rfl⟩ rfl rfl rfl rfl rfl (by kernel_rfl) Tryz.func5 (by kernel_rfl)
  (of_decide_eq_true (by kernel_rfl)) (by unfold Func.isWrapper; first | (rw [if_pos (by decide +kernel)]; kernel_rfl) | (rw [if_neg (by decide +kernel)]; exact ⟨rfl, rfl⟩))
  (fun os started H enc _ => PagerStays_lifted os started H enc)

end Go.Proofs.YtpidnkfcccboaaaGreat.PPagerStays
