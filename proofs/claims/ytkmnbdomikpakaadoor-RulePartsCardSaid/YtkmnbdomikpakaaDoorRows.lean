/-
  NARROWER THAN 'FOR EVERY INPUT', by the rows' own cells (each row's printed sentence says how): RuleReads: laid · RuleLine: loops, laid · RuleFinds: loops, laid · RuleTurned: loops, laid · RuleLines: loops, laid · RuleParts: loops, laid.
  DERIVED. THE GIVEN ROWS OF THIS SEAT. 6 by the template 'for every input the law returns true; each argument reads behind the call as it read before'; 0 by the template 'total and deterministic' (their statements: YtkmnbdomikpakaaDoorTotals.lean).
  GIVEN WITH THE SEED: the statements are not yours to turn. If you find one false, say at which input.
  Laid BY PROGRAM, IN A SANDBOX (cutbox-rows.mjs): the forced cells as the released guide's own fill.sh prints them over the translation 8a2d7aceef114420… (all of the seat's roots in one cut). By AI agents, Wed Nov 11 2026. No macro, syntax, notation, axiom, sorry.
-/
import Derived.Test.YtkmnbdomikpakaaDoorChecked
import GoSem.Claim
import GoSem.ClaimJoined
import GoSem.ClaimMapViews
import Derived.JoinedTies
import Derived.KernelRfl
namespace Go.Proofs.YtkmnbdomikpakaaDoor
/- THE CELL 'sum', in the pinned program and in every row, IS THE sha256 OF THE DUMP (.gsa) THAT YtkmnbdomikpakaaDoorProg.lean LOADS. Nothing in Lean hashes anything: it is a label: what it is worth is what the hold of that sum in a sandbox is worth. -/
noncomputable def Tryd.pinned : Pinned := { name := "ytkmnbdomikpakaadoor", sum := "8a2d7aceef114420158ce19a63aed2ccd9fb7d5d2e2e81389898e442241c81d9", checked := Tryd.checked }
namespace Rows
def none {H : Type} : Left H := { results := [], args := [] }

/- WHAT THE LISTED PACKAGE-LEVEL VARIABLES READ AS WHEN THE CALL BEGINS. Each datum BY PROGRAM (the guide's laid-datum.mjs) off the statement by which the dump's own 'gosem.cut.vars' lays the variable. In a bare row this is a premise. The card (YtkmnbdomikpakaaDoorCards.lean) ties it to the program's text. -/
def laid_lunette_rule_words {H : Type} : DataW H := .agg [.lit (.string [116, 104, 105, 115]), .lit (.string [111, 114]), .lit (.string [97, 110, 100]), .lit (.string [98, 117, 116]), .lit (.string [102, 114, 111, 109]), .lit (.string [107, 105, 110, 100])]
def laid_lunette_rule_forms {H : Type} : DataW H := .agg [.agg [.lit (.string [116, 104, 105, 115]), .lit (.bool false), .lit (.bool false), .lit (.int .i64 0), .lit (.int .i64 0)], .agg [.lit (.string [114, 101, 108]), .lit (.bool true), .lit (.bool false), .lit (.int .i64 0), .lit (.int .i64 0)], .agg [.lit (.string [102, 114, 111, 109]), .lit (.bool true), .lit (.bool true), .lit (.int .i64 0), .lit (.int .i64 0)], .agg [.lit (.string [111, 114]), .lit (.bool false), .lit (.bool false), .lit (.int .i64 2), .lit (.int .i64 2147483647)], .agg [.lit (.string [97, 110, 100]), .lit (.bool false), .lit (.bool false), .lit (.int .i64 2), .lit (.int .i64 2147483647)], .agg [.lit (.string [98, 117, 116]), .lit (.bool false), .lit (.bool false), .lit (.int .i64 2), .lit (.int .i64 2)]]

/-- 'lunettelaw12.RuleReads': WHATEVER THE INPUT: true; the input reads as it did. -/
def ruleReadsSpec : ChangeSpec := { name := "ruleReads", fn := fun _ => fun
  | [d] => { results := [.lit (.bool true)], args := [d] }
  | _ => none }
def ruleReadsRow : OpenClaim := { program := "ytkmnbdomikpakaadoor", sum := "8a2d7aceef114420158ce19a63aed2ccd9fb7d5d2e2e81389898e442241c81d9", func := "lunette/lunettelaw12.RuleReads", spec := "ruleReads", inPlace := ["internal/abi.NoEscape", "internal/bytealg.IndexByteString"], unfollowed := true, recurses := true, named := ["lunette/rule.forms", "lunette/rule.words"], apart := false, laid := [("lunette/rule.words", laid_lunette_rule_words), ("lunette/rule.forms", laid_lunette_rule_forms)] }
def RuleReadsSaid : Prop := ruleReadsRow.holds Tryd.pinned (OpenSpec.ofChange ruleReadsSpec)

/-- ITS FALSE NEIGHBOUR: 'it returns false'. Refute it at one input. -/
def ruleReadsWrong : ChangeSpec := { name := "ruleReads", fn := fun _ => fun
  | [d] => { results := [.lit (.bool false)], args := [d] }
  | _ => none }
def RuleReadsWrongFalsely : Prop := ruleReadsRow.holds Tryd.pinned (OpenSpec.ofChange ruleReadsWrong)

/-- 'lunettelaw12.RuleLine': WHATEVER THE INPUT: true; the input reads as it did. -/
def ruleLineSpec : ChangeSpec := { name := "ruleLine", fn := fun _ => fun
  | [d1, d2] => { results := [.lit (.bool true)], args := [d1, d2] }
  | _ => none }
def ruleLineRow : OpenClaim := { program := "ytkmnbdomikpakaadoor", sum := "8a2d7aceef114420158ce19a63aed2ccd9fb7d5d2e2e81389898e442241c81d9", func := "lunette/lunettelaw12.RuleLine", spec := "ruleLine", inPlace := ["internal/abi.NoEscape", "internal/bytealg.IndexByteString"], unfollowed := true, recurses := true, named := ["lunette/rule.forms", "lunette/rule.words"], loops := true, apart := false, laid := [("lunette/rule.words", laid_lunette_rule_words), ("lunette/rule.forms", laid_lunette_rule_forms)] }
def RuleLineSaid : Prop := ruleLineRow.holds Tryd.pinned (OpenSpec.ofChange ruleLineSpec)

/-- ITS FALSE NEIGHBOUR: 'it returns false'. Refute it at one input. -/
def ruleLineWrong : ChangeSpec := { name := "ruleLine", fn := fun _ => fun
  | [d1, d2] => { results := [.lit (.bool false)], args := [d1, d2] }
  | _ => none }
def RuleLineWrongFalsely : Prop := ruleLineRow.holds Tryd.pinned (OpenSpec.ofChange ruleLineWrong)

/-- 'lunettelaw12.RuleFinds': WHATEVER THE INPUT: true; the input reads as it did. -/
def ruleFindsSpec : ChangeSpec := { name := "ruleFinds", fn := fun _ => fun
  | [d1, d2, d3] => { results := [.lit (.bool true)], args := [d1, d2, d3] }
  | _ => none }
def ruleFindsRow : OpenClaim := { program := "ytkmnbdomikpakaadoor", sum := "8a2d7aceef114420158ce19a63aed2ccd9fb7d5d2e2e81389898e442241c81d9", func := "lunette/lunettelaw12.RuleFinds", spec := "ruleFinds", inPlace := ["internal/abi.NoEscape", "internal/bytealg.IndexByteString"], unfollowed := true, recurses := true, named := ["lunette/rule.forms", "lunette/rule.words"], loops := true, apart := false, laid := [("lunette/rule.words", laid_lunette_rule_words), ("lunette/rule.forms", laid_lunette_rule_forms)] }
def RuleFindsSaid : Prop := ruleFindsRow.holds Tryd.pinned (OpenSpec.ofChange ruleFindsSpec)

/-- ITS FALSE NEIGHBOUR: 'it returns false'. Refute it at one input. -/
def ruleFindsWrong : ChangeSpec := { name := "ruleFinds", fn := fun _ => fun
  | [d1, d2, d3] => { results := [.lit (.bool false)], args := [d1, d2, d3] }
  | _ => none }
def RuleFindsWrongFalsely : Prop := ruleFindsRow.holds Tryd.pinned (OpenSpec.ofChange ruleFindsWrong)

/-- 'lunettelaw12.RuleTurned': WHATEVER THE INPUT: true; the input reads as it did. -/
def ruleTurnedSpec : ChangeSpec := { name := "ruleTurned", fn := fun _ => fun
  | [d1, d2] => { results := [.lit (.bool true)], args := [d1, d2] }
  | _ => none }
def ruleTurnedRow : OpenClaim := { program := "ytkmnbdomikpakaadoor", sum := "8a2d7aceef114420158ce19a63aed2ccd9fb7d5d2e2e81389898e442241c81d9", func := "lunette/lunettelaw12.RuleTurned", spec := "ruleTurned", inPlace := ["internal/abi.NoEscape", "internal/bytealg.IndexByteString"], unfollowed := true, recurses := true, named := ["lunette/rule.forms", "lunette/rule.words"], loops := true, apart := false, laid := [("lunette/rule.words", laid_lunette_rule_words), ("lunette/rule.forms", laid_lunette_rule_forms)] }
def RuleTurnedSaid : Prop := ruleTurnedRow.holds Tryd.pinned (OpenSpec.ofChange ruleTurnedSpec)

/-- ITS FALSE NEIGHBOUR: 'it returns false'. Refute it at one input. -/
def ruleTurnedWrong : ChangeSpec := { name := "ruleTurned", fn := fun _ => fun
  | [d1, d2] => { results := [.lit (.bool false)], args := [d1, d2] }
  | _ => none }
def RuleTurnedWrongFalsely : Prop := ruleTurnedRow.holds Tryd.pinned (OpenSpec.ofChange ruleTurnedWrong)

/-- 'lunettelaw12.RuleLines': WHATEVER THE INPUT: true; the input reads as it did. -/
def ruleLinesSpec : ChangeSpec := { name := "ruleLines", fn := fun _ => fun
  | [d] => { results := [.lit (.bool true)], args := [d] }
  | _ => none }
def ruleLinesRow : OpenClaim := { program := "ytkmnbdomikpakaadoor", sum := "8a2d7aceef114420158ce19a63aed2ccd9fb7d5d2e2e81389898e442241c81d9", func := "lunette/lunettelaw12.RuleLines", spec := "ruleLines", inPlace := ["internal/abi.NoEscape", "internal/bytealg.IndexByteString"], unfollowed := true, recurses := true, named := ["lunette/rule.forms", "lunette/rule.words"], loops := true, apart := false, laid := [("lunette/rule.words", laid_lunette_rule_words), ("lunette/rule.forms", laid_lunette_rule_forms)] }
def RuleLinesSaid : Prop := ruleLinesRow.holds Tryd.pinned (OpenSpec.ofChange ruleLinesSpec)

/-- ITS FALSE NEIGHBOUR: 'it returns false'. Refute it at one input. -/
def ruleLinesWrong : ChangeSpec := { name := "ruleLines", fn := fun _ => fun
  | [d] => { results := [.lit (.bool false)], args := [d] }
  | _ => none }
def RuleLinesWrongFalsely : Prop := ruleLinesRow.holds Tryd.pinned (OpenSpec.ofChange ruleLinesWrong)

/-- 'lunettelaw12.RuleParts': WHATEVER THE INPUT: true; the input reads as it did. -/
def rulePartsSpec : ChangeSpec := { name := "ruleParts", fn := fun _ => fun
  | [d] => { results := [.lit (.bool true)], args := [d] }
  | _ => none }
def rulePartsRow : OpenClaim := { program := "ytkmnbdomikpakaadoor", sum := "8a2d7aceef114420158ce19a63aed2ccd9fb7d5d2e2e81389898e442241c81d9", func := "lunette/lunettelaw12.RuleParts", spec := "ruleParts", inPlace := ["internal/abi.NoEscape", "internal/bytealg.IndexByteString"], unfollowed := true, recurses := true, named := ["lunette/rule.forms", "lunette/rule.words"], loops := true, apart := false, laid := [("lunette/rule.words", laid_lunette_rule_words), ("lunette/rule.forms", laid_lunette_rule_forms)] }
def RulePartsSaid : Prop := rulePartsRow.holds Tryd.pinned (OpenSpec.ofChange rulePartsSpec)

/-- ITS FALSE NEIGHBOUR: 'it returns false'. Refute it at one input. -/
def rulePartsWrong : ChangeSpec := { name := "ruleParts", fn := fun _ => fun
  | [d] => { results := [.lit (.bool false)], args := [d] }
  | _ => none }
def RulePartsWrongFalsely : Prop := rulePartsRow.holds Tryd.pinned (OpenSpec.ofChange rulePartsWrong)

/- THE SECOND FORM. 'bulk': how many values and letters a reading holds, each counted each time it is reached (what is shared counts as often as it is met; a slice's spare places count too). A statement '..UptoSaid' is the law's where the arguments, and the package variables that the reading takes, are together of bulk at most 1048576: NARROWER than '..Said'. Prove '..Said' where nothing that the law and all that it calls make is longer than what came in: it says more and counts as full. Else prove '..UptoSaid'. A law counts once. -/
mutual
def uptoBulk {H : Type} : DataW H → Nat
  | .lit (.string bytes) => bytes.length + 1
  | .lit _ => 1
  | .nil => 1
  | .ptr d => uptoBulk d + 1
  | .slice elems spare => uptoBulkAll elems + uptoBulkAll spare + 1
  | .agg parts => uptoBulkAll parts + 1
  | .iface _ d => uptoBulk d + 1
  | .map entries => uptoBulkEntries entries + 1
  | .held _ => 1
def uptoBulkAll {H : Type} : List (DataW H) → Nat
  | [] => 0
  | d :: r => uptoBulk d + uptoBulkAll r
def uptoBulkEntries {H : Type} : List (Lit × DataW H) → Nat
  | [] => 0
  | x :: r => uptoBulkEntry x + uptoBulkEntries r
def uptoBulkEntry {H : Type} : Lit × DataW H → Nat
  | (.string bytes, d) => bytes.length + uptoBulk d + 1
  | (_, d) => uptoBulk d + 1
 end
def uptoSmall : (H : Type) → List (DataW H) → Bool := fun _ ds => decide (uptoBulkAll ds ≤ 1048576)
def OpenSpec.upto (s : _root_.Go.ChangeSpec) : _root_.Go.OpenSpec := { _root_.Go.OpenSpec.ofChange s with cond := some uptoSmall }

/-- 'lunettelaw12.RuleReads', WHERE WHAT IT READS IS OF BULK AT MOST 1048576: true; the input reads as it did. -/
def ruleReadsUptoRow : OpenClaim := { program := "ytkmnbdomikpakaadoor", sum := "8a2d7aceef114420158ce19a63aed2ccd9fb7d5d2e2e81389898e442241c81d9", func := "lunette/lunettelaw12.RuleReads", spec := "ruleReads", inPlace := ["internal/abi.NoEscape", "internal/bytealg.IndexByteString"], unfollowed := true, recurses := true, named := ["lunette/rule.forms", "lunette/rule.words"], apart := false, laid := [("lunette/rule.words", laid_lunette_rule_words), ("lunette/rule.forms", laid_lunette_rule_forms)], narrowed := true }
def RuleReadsUptoSaid : Prop := ruleReadsUptoRow.holds Tryd.pinned (OpenSpec.upto ruleReadsSpec)

/-- 'lunettelaw12.RuleLine', WHERE WHAT IT READS IS OF BULK AT MOST 1048576: true; the input reads as it did. -/
def ruleLineUptoRow : OpenClaim := { program := "ytkmnbdomikpakaadoor", sum := "8a2d7aceef114420158ce19a63aed2ccd9fb7d5d2e2e81389898e442241c81d9", func := "lunette/lunettelaw12.RuleLine", spec := "ruleLine", inPlace := ["internal/abi.NoEscape", "internal/bytealg.IndexByteString"], unfollowed := true, recurses := true, named := ["lunette/rule.forms", "lunette/rule.words"], loops := true, apart := false, laid := [("lunette/rule.words", laid_lunette_rule_words), ("lunette/rule.forms", laid_lunette_rule_forms)], narrowed := true }
def RuleLineUptoSaid : Prop := ruleLineUptoRow.holds Tryd.pinned (OpenSpec.upto ruleLineSpec)

/-- 'lunettelaw12.RuleFinds', WHERE WHAT IT READS IS OF BULK AT MOST 1048576: true; the input reads as it did. -/
def ruleFindsUptoRow : OpenClaim := { program := "ytkmnbdomikpakaadoor", sum := "8a2d7aceef114420158ce19a63aed2ccd9fb7d5d2e2e81389898e442241c81d9", func := "lunette/lunettelaw12.RuleFinds", spec := "ruleFinds", inPlace := ["internal/abi.NoEscape", "internal/bytealg.IndexByteString"], unfollowed := true, recurses := true, named := ["lunette/rule.forms", "lunette/rule.words"], loops := true, apart := false, laid := [("lunette/rule.words", laid_lunette_rule_words), ("lunette/rule.forms", laid_lunette_rule_forms)], narrowed := true }
def RuleFindsUptoSaid : Prop := ruleFindsUptoRow.holds Tryd.pinned (OpenSpec.upto ruleFindsSpec)

/-- 'lunettelaw12.RuleTurned', WHERE WHAT IT READS IS OF BULK AT MOST 1048576: true; the input reads as it did. -/
def ruleTurnedUptoRow : OpenClaim := { program := "ytkmnbdomikpakaadoor", sum := "8a2d7aceef114420158ce19a63aed2ccd9fb7d5d2e2e81389898e442241c81d9", func := "lunette/lunettelaw12.RuleTurned", spec := "ruleTurned", inPlace := ["internal/abi.NoEscape", "internal/bytealg.IndexByteString"], unfollowed := true, recurses := true, named := ["lunette/rule.forms", "lunette/rule.words"], loops := true, apart := false, laid := [("lunette/rule.words", laid_lunette_rule_words), ("lunette/rule.forms", laid_lunette_rule_forms)], narrowed := true }
def RuleTurnedUptoSaid : Prop := ruleTurnedUptoRow.holds Tryd.pinned (OpenSpec.upto ruleTurnedSpec)

/-- 'lunettelaw12.RuleLines', WHERE WHAT IT READS IS OF BULK AT MOST 1048576: true; the input reads as it did. -/
def ruleLinesUptoRow : OpenClaim := { program := "ytkmnbdomikpakaadoor", sum := "8a2d7aceef114420158ce19a63aed2ccd9fb7d5d2e2e81389898e442241c81d9", func := "lunette/lunettelaw12.RuleLines", spec := "ruleLines", inPlace := ["internal/abi.NoEscape", "internal/bytealg.IndexByteString"], unfollowed := true, recurses := true, named := ["lunette/rule.forms", "lunette/rule.words"], loops := true, apart := false, laid := [("lunette/rule.words", laid_lunette_rule_words), ("lunette/rule.forms", laid_lunette_rule_forms)], narrowed := true }
def RuleLinesUptoSaid : Prop := ruleLinesUptoRow.holds Tryd.pinned (OpenSpec.upto ruleLinesSpec)

/-- 'lunettelaw12.RuleParts', WHERE WHAT IT READS IS OF BULK AT MOST 1048576: true; the input reads as it did. -/
def rulePartsUptoRow : OpenClaim := { program := "ytkmnbdomikpakaadoor", sum := "8a2d7aceef114420158ce19a63aed2ccd9fb7d5d2e2e81389898e442241c81d9", func := "lunette/lunettelaw12.RuleParts", spec := "ruleParts", inPlace := ["internal/abi.NoEscape", "internal/bytealg.IndexByteString"], unfollowed := true, recurses := true, named := ["lunette/rule.forms", "lunette/rule.words"], loops := true, apart := false, laid := [("lunette/rule.words", laid_lunette_rule_words), ("lunette/rule.forms", laid_lunette_rule_forms)], narrowed := true }
def RulePartsUptoSaid : Prop := rulePartsUptoRow.holds Tryd.pinned (OpenSpec.upto rulePartsSpec)

end Rows
end Go.Proofs.YtkmnbdomikpakaaDoor
