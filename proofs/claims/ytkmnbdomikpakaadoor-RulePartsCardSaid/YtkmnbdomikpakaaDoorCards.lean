/-
  DERIVED. GIVEN WITH THE SEED: THE CARDS: each row of YtkmnbdomikpakaaDoorRows.lean that lists a variable, with what it lists TIED to the program's text (the seventh form; the later family's looks); each row that meets fmt, with fmt's text TOLD by the authors' own Lean function (tested against real Go, not proved from fmt's source: count such statements apart). THE CARD IS WHAT COUNTS. Prove the row's statement (the work); the ties are given (YtkmnbdomikpakaaDoorTie.lean); close each card by the builder's one call (the guide's Derived/Test/ToyasCard.lean, 'card_holds'). Laid BY PROGRAM, IN A SANDBOX (cutbox-door.mjs). By AI agents, Wed Nov 11 2026. No macro, syntax, notation, axiom, sorry.
-/
import Derived.Test.YtkmnbdomikpakaaDoorRows
import GoSem.ClaimSeven
namespace Go.Proofs.YtkmnbdomikpakaaDoor
namespace Rows

/-- THE TIED CARD OF 'lunettelaw12.RuleReads'. -/
def ruleReadsCard : Claim7 := { stood := { row := ruleReadsRow, standIns := [], harness := (true, "d33c8762580362e90d846314a99074133f89ad458a68d1e0e6a7f58757babba7"), looks := false }, kinds := [], alts := [], laidByText := true, laidKinds := [.data, .data], laidTests := true, laidLooks := .later }
def RuleReadsCardSaid : Prop := Claim7.holds Tryd.pinned (.plain (OpenSpec.ofChange ruleReadsSpec)) ruleReadsCard

/-- THE TIED CARD OF 'lunettelaw12.RuleLine'. -/
def ruleLineCard : Claim7 := { stood := { row := ruleLineRow, standIns := [], harness := (true, "d33c8762580362e90d846314a99074133f89ad458a68d1e0e6a7f58757babba7"), looks := false }, kinds := [], alts := [], laidByText := true, laidKinds := [.data, .data], laidTests := true, laidLooks := .later }
def RuleLineCardSaid : Prop := Claim7.holds Tryd.pinned (.plain (OpenSpec.ofChange ruleLineSpec)) ruleLineCard

/-- THE TIED CARD OF 'lunettelaw12.RuleFinds'. -/
def ruleFindsCard : Claim7 := { stood := { row := ruleFindsRow, standIns := [], harness := (true, "d33c8762580362e90d846314a99074133f89ad458a68d1e0e6a7f58757babba7"), looks := false }, kinds := [], alts := [], laidByText := true, laidKinds := [.data, .data], laidTests := true, laidLooks := .later }
def RuleFindsCardSaid : Prop := Claim7.holds Tryd.pinned (.plain (OpenSpec.ofChange ruleFindsSpec)) ruleFindsCard

/-- THE TIED CARD OF 'lunettelaw12.RuleTurned'. -/
def ruleTurnedCard : Claim7 := { stood := { row := ruleTurnedRow, standIns := [], harness := (true, "d33c8762580362e90d846314a99074133f89ad458a68d1e0e6a7f58757babba7"), looks := false }, kinds := [], alts := [], laidByText := true, laidKinds := [.data, .data], laidTests := true, laidLooks := .later }
def RuleTurnedCardSaid : Prop := Claim7.holds Tryd.pinned (.plain (OpenSpec.ofChange ruleTurnedSpec)) ruleTurnedCard

/-- THE TIED CARD OF 'lunettelaw12.RuleLines'. -/
def ruleLinesCard : Claim7 := { stood := { row := ruleLinesRow, standIns := [], harness := (true, "d33c8762580362e90d846314a99074133f89ad458a68d1e0e6a7f58757babba7"), looks := false }, kinds := [], alts := [], laidByText := true, laidKinds := [.data, .data], laidTests := true, laidLooks := .later }
def RuleLinesCardSaid : Prop := Claim7.holds Tryd.pinned (.plain (OpenSpec.ofChange ruleLinesSpec)) ruleLinesCard

/-- THE TIED CARD OF 'lunettelaw12.RuleParts'. -/
def rulePartsCard : Claim7 := { stood := { row := rulePartsRow, standIns := [], harness := (true, "d33c8762580362e90d846314a99074133f89ad458a68d1e0e6a7f58757babba7"), looks := false }, kinds := [], alts := [], laidByText := true, laidKinds := [.data, .data], laidTests := true, laidLooks := .later }
def RulePartsCardSaid : Prop := Claim7.holds Tryd.pinned (.plain (OpenSpec.ofChange rulePartsSpec)) rulePartsCard

/-- THE SECOND FORM's CARD OF 'lunettelaw12.RuleReads'. -/
def ruleReadsUptoCard : Claim7 := { stood := { row := ruleReadsUptoRow, standIns := [], harness := (true, "d33c8762580362e90d846314a99074133f89ad458a68d1e0e6a7f58757babba7"), looks := false }, kinds := [], alts := [], laidByText := true, laidKinds := [.data, .data], laidTests := true, laidLooks := .later }
def RuleReadsUptoCardSaid : Prop := Claim7.holds Tryd.pinned (.plain (OpenSpec.upto ruleReadsSpec)) ruleReadsUptoCard

/-- THE SECOND FORM's CARD OF 'lunettelaw12.RuleLine'. -/
def ruleLineUptoCard : Claim7 := { stood := { row := ruleLineUptoRow, standIns := [], harness := (true, "d33c8762580362e90d846314a99074133f89ad458a68d1e0e6a7f58757babba7"), looks := false }, kinds := [], alts := [], laidByText := true, laidKinds := [.data, .data], laidTests := true, laidLooks := .later }
def RuleLineUptoCardSaid : Prop := Claim7.holds Tryd.pinned (.plain (OpenSpec.upto ruleLineSpec)) ruleLineUptoCard

/-- THE SECOND FORM's CARD OF 'lunettelaw12.RuleFinds'. -/
def ruleFindsUptoCard : Claim7 := { stood := { row := ruleFindsUptoRow, standIns := [], harness := (true, "d33c8762580362e90d846314a99074133f89ad458a68d1e0e6a7f58757babba7"), looks := false }, kinds := [], alts := [], laidByText := true, laidKinds := [.data, .data], laidTests := true, laidLooks := .later }
def RuleFindsUptoCardSaid : Prop := Claim7.holds Tryd.pinned (.plain (OpenSpec.upto ruleFindsSpec)) ruleFindsUptoCard

/-- THE SECOND FORM's CARD OF 'lunettelaw12.RuleTurned'. -/
def ruleTurnedUptoCard : Claim7 := { stood := { row := ruleTurnedUptoRow, standIns := [], harness := (true, "d33c8762580362e90d846314a99074133f89ad458a68d1e0e6a7f58757babba7"), looks := false }, kinds := [], alts := [], laidByText := true, laidKinds := [.data, .data], laidTests := true, laidLooks := .later }
def RuleTurnedUptoCardSaid : Prop := Claim7.holds Tryd.pinned (.plain (OpenSpec.upto ruleTurnedSpec)) ruleTurnedUptoCard

/-- THE SECOND FORM's CARD OF 'lunettelaw12.RuleLines'. -/
def ruleLinesUptoCard : Claim7 := { stood := { row := ruleLinesUptoRow, standIns := [], harness := (true, "d33c8762580362e90d846314a99074133f89ad458a68d1e0e6a7f58757babba7"), looks := false }, kinds := [], alts := [], laidByText := true, laidKinds := [.data, .data], laidTests := true, laidLooks := .later }
def RuleLinesUptoCardSaid : Prop := Claim7.holds Tryd.pinned (.plain (OpenSpec.upto ruleLinesSpec)) ruleLinesUptoCard

/-- THE SECOND FORM's CARD OF 'lunettelaw12.RuleParts'. -/
def rulePartsUptoCard : Claim7 := { stood := { row := rulePartsUptoRow, standIns := [], harness := (true, "d33c8762580362e90d846314a99074133f89ad458a68d1e0e6a7f58757babba7"), looks := false }, kinds := [], alts := [], laidByText := true, laidKinds := [.data, .data], laidTests := true, laidLooks := .later }
def RulePartsUptoCardSaid : Prop := Claim7.holds Tryd.pinned (.plain (OpenSpec.upto rulePartsSpec)) rulePartsUptoCard
end Rows
end Go.Proofs.YtkmnbdomikpakaaDoor
