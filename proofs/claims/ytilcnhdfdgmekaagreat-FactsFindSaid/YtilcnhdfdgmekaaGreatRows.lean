/-
  No cell of these rows narrows 'for every input' (looked for: loops, veiled, ifaces, maps, wideKeys, modest, calm, conditions, laid).
  DERIVED. THE GIVEN ROWS OF THIS SEAT. 6 by the template 'for every input the law returns true; each argument reads behind the call as it read before'; 0 by the template 'total and deterministic' (their statements: YtilcnhdfdgmekaaGreatTotals.lean).
  GIVEN WITH THE SEED: the statements are not yours to turn. If you find one false, say at which input.
  Laid BY PROGRAM, IN A SANDBOX (cutbox-rows.mjs): the forced cells as the released guide's own fill.sh prints them over the translation aebd8a52e7e5837e… (all of the seat's roots in one cut). By AI agents, Wed Nov 11 2026. No macro, syntax, notation, axiom, sorry.
-/
import Derived.Test.YtilcnhdfdgmekaaGreatChecked
import GoSem.Claim
import GoSem.ClaimJoined
import GoSem.ClaimMapViews
import Derived.JoinedTies
import Derived.KernelRfl
namespace Go.Proofs.YtilcnhdfdgmekaaGreat
/- THE CELL 'sum', in the pinned program and in every row, IS THE sha256 OF THE DUMP (.gsa) THAT YtilcnhdfdgmekaaGreatProg.lean LOADS. Nothing in Lean hashes anything: it is a label: what it is worth is what the hold of that sum in a sandbox is worth. -/
noncomputable def Tryz.pinned : Pinned := { name := "ytilcnhdfdgmekaagreat", sum := "aebd8a52e7e5837e2230d80be69dea758a1a3c40925ec3c154809c0a1974547d", checked := Tryz.checked }
namespace Rows
def none {H : Type} : Left H := { results := [], args := [] }

/-- 'lunettelaw13.FactsPlay': WHATEVER THE INPUT: true; the input reads as it did. -/
def factsPlaySpec : ChangeSpec := { name := "factsPlay", fn := fun _ => fun
  | [d1, d2] => { results := [.lit (.bool true)], args := [d1, d2] }
  | _ => none }
def factsPlayRow : OpenClaim := { program := "ytilcnhdfdgmekaagreat", sum := "aebd8a52e7e5837e2230d80be69dea758a1a3c40925ec3c154809c0a1974547d", func := "lunette/lunettelaw13.FactsPlay", spec := "factsPlay", inPlace := ["internal/reflectlite.ValueOf", "internal/reflectlite.Swapper", "(internal/reflectlite.Value).Len"], unfollowed := true, recurses := true, plainKeys := false, apart := false }
def FactsPlaySaid : Prop := factsPlayRow.holds Tryz.pinned (OpenSpec.ofChange factsPlaySpec)

/-- ITS FALSE NEIGHBOUR: 'it returns false'. Refute it at one input. -/
def factsPlayWrong : ChangeSpec := { name := "factsPlay", fn := fun _ => fun
  | [d1, d2] => { results := [.lit (.bool false)], args := [d1, d2] }
  | _ => none }
def FactsPlayWrongFalsely : Prop := factsPlayRow.holds Tryz.pinned (OpenSpec.ofChange factsPlayWrong)

/-- 'lunettelaw13.FactsFind': WHATEVER THE INPUT: true; the input reads as it did. -/
def factsFindSpec : ChangeSpec := { name := "factsFind", fn := fun _ => fun
  | [d1, d2, d3] => { results := [.lit (.bool true)], args := [d1, d2, d3] }
  | _ => none }
def factsFindRow : OpenClaim := { program := "ytilcnhdfdgmekaagreat", sum := "aebd8a52e7e5837e2230d80be69dea758a1a3c40925ec3c154809c0a1974547d", func := "lunette/lunettelaw13.FactsFind", spec := "factsFind", inPlace := ["internal/reflectlite.ValueOf", "internal/reflectlite.Swapper", "(internal/reflectlite.Value).Len"], unfollowed := true, recurses := true, plainKeys := false, apart := false }
def FactsFindSaid : Prop := factsFindRow.holds Tryz.pinned (OpenSpec.ofChange factsFindSpec)

/-- ITS FALSE NEIGHBOUR: 'it returns false'. Refute it at one input. -/
def factsFindWrong : ChangeSpec := { name := "factsFind", fn := fun _ => fun
  | [d1, d2, d3] => { results := [.lit (.bool false)], args := [d1, d2, d3] }
  | _ => none }
def FactsFindWrongFalsely : Prop := factsFindRow.holds Tryz.pinned (OpenSpec.ofChange factsFindWrong)

/-- 'lunettelaw13.FactsOrder': WHATEVER THE INPUT: true; the input reads as it did. -/
def factsOrderSpec : ChangeSpec := { name := "factsOrder", fn := fun _ => fun
  | [d1, d2] => { results := [.lit (.bool true)], args := [d1, d2] }
  | _ => none }
def factsOrderRow : OpenClaim := { program := "ytilcnhdfdgmekaagreat", sum := "aebd8a52e7e5837e2230d80be69dea758a1a3c40925ec3c154809c0a1974547d", func := "lunette/lunettelaw13.FactsOrder", spec := "factsOrder", inPlace := ["internal/reflectlite.ValueOf", "internal/reflectlite.Swapper", "(internal/reflectlite.Value).Len"], unfollowed := true, recurses := true, plainKeys := false, apart := false }
def FactsOrderSaid : Prop := factsOrderRow.holds Tryz.pinned (OpenSpec.ofChange factsOrderSpec)

/-- ITS FALSE NEIGHBOUR: 'it returns false'. Refute it at one input. -/
def factsOrderWrong : ChangeSpec := { name := "factsOrder", fn := fun _ => fun
  | [d1, d2] => { results := [.lit (.bool false)], args := [d1, d2] }
  | _ => none }
def FactsOrderWrongFalsely : Prop := factsOrderRow.holds Tryz.pinned (OpenSpec.ofChange factsOrderWrong)

/-- 'lunettelaw13.FactsUsers': WHATEVER THE INPUT: true; the input reads as it did. -/
def factsUsersSpec : ChangeSpec := { name := "factsUsers", fn := fun _ => fun
  | [d1, d2, d3, d4] => { results := [.lit (.bool true)], args := [d1, d2, d3, d4] }
  | _ => none }
def factsUsersRow : OpenClaim := { program := "ytilcnhdfdgmekaagreat", sum := "aebd8a52e7e5837e2230d80be69dea758a1a3c40925ec3c154809c0a1974547d", func := "lunette/lunettelaw13.FactsUsers", spec := "factsUsers", inPlace := ["internal/reflectlite.ValueOf", "internal/reflectlite.Swapper", "(internal/reflectlite.Value).Len"], unfollowed := true, recurses := true, plainKeys := false, apart := false }
def FactsUsersSaid : Prop := factsUsersRow.holds Tryz.pinned (OpenSpec.ofChange factsUsersSpec)

/-- ITS FALSE NEIGHBOUR: 'it returns false'. Refute it at one input. -/
def factsUsersWrong : ChangeSpec := { name := "factsUsers", fn := fun _ => fun
  | [d1, d2, d3, d4] => { results := [.lit (.bool false)], args := [d1, d2, d3, d4] }
  | _ => none }
def FactsUsersWrongFalsely : Prop := factsUsersRow.holds Tryz.pinned (OpenSpec.ofChange factsUsersWrong)

/-- 'lunettelaw13.FactsNarrow': WHATEVER THE INPUT: true; the input reads as it did. -/
def factsNarrowSpec : ChangeSpec := { name := "factsNarrow", fn := fun _ => fun
  | [d1, d2, d3, d4] => { results := [.lit (.bool true)], args := [d1, d2, d3, d4] }
  | _ => none }
def factsNarrowRow : OpenClaim := { program := "ytilcnhdfdgmekaagreat", sum := "aebd8a52e7e5837e2230d80be69dea758a1a3c40925ec3c154809c0a1974547d", func := "lunette/lunettelaw13.FactsNarrow", spec := "factsNarrow", inPlace := ["internal/reflectlite.ValueOf", "internal/reflectlite.Swapper", "(internal/reflectlite.Value).Len"], unfollowed := true, recurses := true, plainKeys := false, apart := false }
def FactsNarrowSaid : Prop := factsNarrowRow.holds Tryz.pinned (OpenSpec.ofChange factsNarrowSpec)

/-- ITS FALSE NEIGHBOUR: 'it returns false'. Refute it at one input. -/
def factsNarrowWrong : ChangeSpec := { name := "factsNarrow", fn := fun _ => fun
  | [d1, d2, d3, d4] => { results := [.lit (.bool false)], args := [d1, d2, d3, d4] }
  | _ => none }
def FactsNarrowWrongFalsely : Prop := factsNarrowRow.holds Tryz.pinned (OpenSpec.ofChange factsNarrowWrong)

/-- 'lunettelaw13.FactsDrops': WHATEVER THE INPUT: true; the input reads as it did. -/
def factsDropsSpec : ChangeSpec := { name := "factsDrops", fn := fun _ => fun
  | [d1, d2, d3] => { results := [.lit (.bool true)], args := [d1, d2, d3] }
  | _ => none }
def factsDropsRow : OpenClaim := { program := "ytilcnhdfdgmekaagreat", sum := "aebd8a52e7e5837e2230d80be69dea758a1a3c40925ec3c154809c0a1974547d", func := "lunette/lunettelaw13.FactsDrops", spec := "factsDrops", inPlace := ["internal/reflectlite.ValueOf", "internal/reflectlite.Swapper", "(internal/reflectlite.Value).Len"], unfollowed := true, recurses := true, plainKeys := false, apart := false }
def FactsDropsSaid : Prop := factsDropsRow.holds Tryz.pinned (OpenSpec.ofChange factsDropsSpec)

/-- ITS FALSE NEIGHBOUR: 'it returns false'. Refute it at one input. -/
def factsDropsWrong : ChangeSpec := { name := "factsDrops", fn := fun _ => fun
  | [d1, d2, d3] => { results := [.lit (.bool false)], args := [d1, d2, d3] }
  | _ => none }
def FactsDropsWrongFalsely : Prop := factsDropsRow.holds Tryz.pinned (OpenSpec.ofChange factsDropsWrong)

/- THE SECOND FORM. 'bulk': how many values and letters a reading holds, each counted each time it is reached (what is shared counts as often as it is met; a slice's spare places count too). A statement '..UptoSaid' is the law's where the arguments, and the package variables that the reading takes, are together of bulk at most 1048576: NARROWER than '..Said'. Prove '..Said' where nothing that the law and all that it calls make is longer than what came in: it says more and counts as full. Else prove '..UptoSaid'. A law counts once. -/
mutual
def uptoBulk {H : Type} : DataW H → Nat
  | .lit (.string bytes) => bytes.length + 1
  | .lit _ => 1
  | .nil => 1
  | .ptr d => uptoBulk d + 1
  | .slice elems spare => uptoBulkAll elems + uptoBulkAll spare + 1
  | .agg parts => uptoBulkAll parts + 1
  | .iface _ d => uptoBulk d + 1
  | .map entries => uptoBulkEntries entries + 1
  | .held _ => 1
def uptoBulkAll {H : Type} : List (DataW H) → Nat
  | [] => 0
  | d :: r => uptoBulk d + uptoBulkAll r
def uptoBulkEntries {H : Type} : List (Lit × DataW H) → Nat
  | [] => 0
  | x :: r => uptoBulkEntry x + uptoBulkEntries r
def uptoBulkEntry {H : Type} : Lit × DataW H → Nat
  | (.string bytes, d) => bytes.length + uptoBulk d + 1
  | (_, d) => uptoBulk d + 1
 end
def uptoSmall : (H : Type) → List (DataW H) → Bool := fun _ ds => decide (uptoBulkAll ds ≤ 1048576)
def OpenSpec.upto (s : _root_.Go.ChangeSpec) : _root_.Go.OpenSpec := { _root_.Go.OpenSpec.ofChange s with cond := some uptoSmall }

/-- 'lunettelaw13.FactsPlay', WHERE WHAT IT READS IS OF BULK AT MOST 1048576: true; the input reads as it did. -/
def factsPlayUptoRow : OpenClaim := { program := "ytilcnhdfdgmekaagreat", sum := "aebd8a52e7e5837e2230d80be69dea758a1a3c40925ec3c154809c0a1974547d", func := "lunette/lunettelaw13.FactsPlay", spec := "factsPlay", inPlace := ["internal/reflectlite.ValueOf", "internal/reflectlite.Swapper", "(internal/reflectlite.Value).Len"], unfollowed := true, recurses := true, plainKeys := false, apart := false, narrowed := true }
def FactsPlayUptoSaid : Prop := factsPlayUptoRow.holds Tryz.pinned (OpenSpec.upto factsPlaySpec)

/-- 'lunettelaw13.FactsFind', WHERE WHAT IT READS IS OF BULK AT MOST 1048576: true; the input reads as it did. -/
def factsFindUptoRow : OpenClaim := { program := "ytilcnhdfdgmekaagreat", sum := "aebd8a52e7e5837e2230d80be69dea758a1a3c40925ec3c154809c0a1974547d", func := "lunette/lunettelaw13.FactsFind", spec := "factsFind", inPlace := ["internal/reflectlite.ValueOf", "internal/reflectlite.Swapper", "(internal/reflectlite.Value).Len"], unfollowed := true, recurses := true, plainKeys := false, apart := false, narrowed := true }
def FactsFindUptoSaid : Prop := factsFindUptoRow.holds Tryz.pinned (OpenSpec.upto factsFindSpec)

/-- 'lunettelaw13.FactsOrder', WHERE WHAT IT READS IS OF BULK AT MOST 1048576: true; the input reads as it did. -/
def factsOrderUptoRow : OpenClaim := { program := "ytilcnhdfdgmekaagreat", sum := "aebd8a52e7e5837e2230d80be69dea758a1a3c40925ec3c154809c0a1974547d", func := "lunette/lunettelaw13.FactsOrder", spec := "factsOrder", inPlace := ["internal/reflectlite.ValueOf", "internal/reflectlite.Swapper", "(internal/reflectlite.Value).Len"], unfollowed := true, recurses := true, plainKeys := false, apart := false, narrowed := true }
def FactsOrderUptoSaid : Prop := factsOrderUptoRow.holds Tryz.pinned (OpenSpec.upto factsOrderSpec)

/-- 'lunettelaw13.FactsUsers', WHERE WHAT IT READS IS OF BULK AT MOST 1048576: true; the input reads as it did. -/
def factsUsersUptoRow : OpenClaim := { program := "ytilcnhdfdgmekaagreat", sum := "aebd8a52e7e5837e2230d80be69dea758a1a3c40925ec3c154809c0a1974547d", func := "lunette/lunettelaw13.FactsUsers", spec := "factsUsers", inPlace := ["internal/reflectlite.ValueOf", "internal/reflectlite.Swapper", "(internal/reflectlite.Value).Len"], unfollowed := true, recurses := true, plainKeys := false, apart := false, narrowed := true }
def FactsUsersUptoSaid : Prop := factsUsersUptoRow.holds Tryz.pinned (OpenSpec.upto factsUsersSpec)

/-- 'lunettelaw13.FactsNarrow', WHERE WHAT IT READS IS OF BULK AT MOST 1048576: true; the input reads as it did. -/
def factsNarrowUptoRow : OpenClaim := { program := "ytilcnhdfdgmekaagreat", sum := "aebd8a52e7e5837e2230d80be69dea758a1a3c40925ec3c154809c0a1974547d", func := "lunette/lunettelaw13.FactsNarrow", spec := "factsNarrow", inPlace := ["internal/reflectlite.ValueOf", "internal/reflectlite.Swapper", "(internal/reflectlite.Value).Len"], unfollowed := true, recurses := true, plainKeys := false, apart := false, narrowed := true }
def FactsNarrowUptoSaid : Prop := factsNarrowUptoRow.holds Tryz.pinned (OpenSpec.upto factsNarrowSpec)

/-- 'lunettelaw13.FactsDrops', WHERE WHAT IT READS IS OF BULK AT MOST 1048576: true; the input reads as it did. -/
def factsDropsUptoRow : OpenClaim := { program := "ytilcnhdfdgmekaagreat", sum := "aebd8a52e7e5837e2230d80be69dea758a1a3c40925ec3c154809c0a1974547d", func := "lunette/lunettelaw13.FactsDrops", spec := "factsDrops", inPlace := ["internal/reflectlite.ValueOf", "internal/reflectlite.Swapper", "(internal/reflectlite.Value).Len"], unfollowed := true, recurses := true, plainKeys := false, apart := false, narrowed := true }
def FactsDropsUptoSaid : Prop := factsDropsUptoRow.holds Tryz.pinned (OpenSpec.upto factsDropsSpec)

end Rows
end Go.Proofs.YtilcnhdfdgmekaaGreat
