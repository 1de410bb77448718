/- SuperTurns is proved: for every input the statement answers true, and what was handed in reads as before. Conditions: none. -/
import Derived.Test.YtcnblgienombeaaRows
import Derived.Test.YtcnblgienombeaaPlumb
import Derived.Test.YtcnblgienombeaaSuperTurns
import Derived.Test.YtcnblgienombeaaPagePlumb
import Derived.Test.YtcnblgienombeaaSuperReal
import Derived.ProofKit
namespace Go.Proofs.Ytcnblgienombeaa.PSuperTurns
open Go.ChangeShapes Go.WideShapes Go.ChangeAt Go.RowKit Base Plumb
open Go.ChangeMaps (open_string shut_string)

theorem own : ownKnob Try.prog.godebug = none := by kernel_rfl
theorem laidOut : laidOutB Try.prog = true := by kernel_rfl
theorem cells_string : Try.prog.cellsOf 9 = 1 := by kernel_rfl

set_option maxRecDepth 100000 in
theorem SuperTurns_lifted (os : Os) (started : os.Started) (H : Type) (enc : TypeId × Value → H) :
    ReturnsInHanded {} Try.checked os 7 .any (Rows.superTurnsSpec.pre6 enc Try.prog Try.f7 Rows.superTurnsRow.domain false) (Rows.superTurnsSpec.post enc Try.prog Try.f7 false true false false) := by
  refine returnsInHanded_of_change (C := Try.checked) own started (by kernel_rfl) Try.func7
    (ChangeSpec.witness6 (enc := enc) (C := Try.checked) false ⟨#[], #[.slice none 0 0], []⟩ 8 (by kernel_rfl) (by kernel_rfl) (by kernel_rfl) (by kernel_rfl)) ?_
  intro W base args ds gs before hval0 hW _ _
  have hval : ∀ (j : Nat) t v, Try.f7.params[j]? = some t → args[j]? = some v → Value.okWide Try.prog W .any base t v := hval0
  have hW' := hW
  obtain ⟨p, q, hA0, hV, rfl, hfz, hnd⟩ := hW
  have hA : DataW.TrodAll enc Try.prog W 0 (fun _ => true) true Try.f7.params.toList args.toList ds p := hA0
  rw [Try.params7] at hA hval
  obtain ⟨v0, vs0, d0, ds0, p0, q0, hargs, rfl, rfl, h0, r0⟩ := trodAll_cons hA
  obtain ⟨rfl, rfl, rfl⟩ := trodAll_nil r0
  obtain rfl : args = #[v0] := by cases args; simp_all
  obtain ⟨rfl, rfl⟩ := trodVars_none hV
  obtain ⟨_, _, _, rfl⟩ := okWide_slice Try.underlying47 (hval 0 47 v0 rfl rfl)
  obtain ⟨fu0, hf0⟩ := h0
  obtain ⟨A0, c0, l0, he0, hr0, hn0, hw0⟩ := SuperPlumb.open_supers hf0
  injection he0 with ea0 eb0 ec0
  subst ea0 eb0 ec0
  clear hA0 hval0
  simp only [List.append_nil] at hW'
  refine (SuperTurns.turns_any SuperReal.specs W _ _ l0 hr0 hn0 hw0).mono fun e W' ⟨he, hb⟩ => ?_
  subst he
  exact ⟨_, rfl, law_post laidOut (by kernel_rfl) rfl rfl rfl Try.underlying4 hW' hb⟩

/-- SuperTurns, for every input: the statement. -/
theorem SuperTurns_holds : Rows.SuperTurnsSaid :=
  OpenClaim.holds_of_wide 7 Try.f7 rfl rfl rfl rfl rfl rfl rfl ⟨rfl, rfl, rfl, rfl, rfl⟩ rfl rfl rfl rfl rfl (by kernel_rfl) Try.func7 (by kernel_rfl)
    (of_decide_eq_true (by kernel_rfl)) (by unfold Func.isWrapper; first | (rw [if_pos (by decide +kernel)]; kernel_rfl) | (rw [if_neg (by decide +kernel)]; exact ⟨rfl, rfl⟩))
    (fun os started H enc _ => SuperTurns_lifted os started H enc)

end Go.Proofs.Ytcnblgienombeaa.PSuperTurns
