/-
  No cell of these rows narrows 'for every input' (looked for: loops, veiled, ifaces, maps, wideKeys, modest, calm, conditions, laid).
  DERIVED. THE GIVEN ROWS OF THIS SEAT. 10 by the template 'for every input the law returns true; each argument reads behind the call as it read before'; 0 by the template 'total and deterministic' (their statements: YtpcpfcllgadghaaTotals.lean).
  GIVEN WITH THE SEED: the statements are not yours to turn. If you find one false, say at which input.
  Laid BY PROGRAM, IN A SANDBOX (cutbox-rows.mjs): the forced cells as the released guide's own fill.sh prints them over the translation 454da2c4a28a8bed… (all of the seat's roots in one cut). By AI agents, Wed Nov 11 2026. No macro, syntax, notation, axiom, sorry.
-/
import Derived.Test.YtpcpfcllgadghaaChecked
import GoSem.Claim
import GoSem.ClaimJoined
import GoSem.ClaimMapViews
import Derived.JoinedTies
import Derived.KernelRfl
namespace Go.Proofs.Ytpcpfcllgadghaa
/- THE CELL 'sum', in the pinned program and in every row, IS THE sha256 OF THE DUMP (.gsa) THAT YtpcpfcllgadghaaProg.lean LOADS. Nothing in Lean hashes anything: it is a label: what it is worth is what the hold of that sum in a sandbox is worth. -/
noncomputable def Try.pinned : Pinned := { name := "ytpcpfcllgadghaa", sum := "454da2c4a28a8bed51a728f7f47a7869c065f3a1dedfdfbdefdd8daa85ed8ba5", checked := Try.checked }
namespace Rows
def none {H : Type} : Left H := { results := [], args := [] }

/-- 'lunettelaw05.NodeCells': WHATEVER THE INPUT: true; the input reads as it did. -/
def nodeCellsSpec : ChangeSpec := { name := "nodeCells", fn := fun _ => fun
  | [d] => { results := [.lit (.bool true)], args := [d] }
  | _ => none }
def nodeCellsRow : OpenClaim := { program := "ytpcpfcllgadghaa", sum := "454da2c4a28a8bed51a728f7f47a7869c065f3a1dedfdfbdefdd8daa85ed8ba5", func := "lunette/lunettelaw05.NodeCells", spec := "nodeCells", unfollowed := true, recurses := true, apart := false }
def NodeCellsSaid : Prop := nodeCellsRow.holds Try.pinned (OpenSpec.ofChange nodeCellsSpec)

/-- ITS FALSE NEIGHBOUR: 'it returns false'. Refute it at one input. -/
def nodeCellsWrong : ChangeSpec := { name := "nodeCells", fn := fun _ => fun
  | [d] => { results := [.lit (.bool false)], args := [d] }
  | _ => none }
def NodeCellsWrongFalsely : Prop := nodeCellsRow.holds Try.pinned (OpenSpec.ofChange nodeCellsWrong)

/-- 'lunettelaw05.NodeOf': WHATEVER THE INPUT: true; the input reads as it did. -/
def nodeOfSpec : ChangeSpec := { name := "nodeOf", fn := fun _ => fun
  | [d1, d2] => { results := [.lit (.bool true)], args := [d1, d2] }
  | _ => none }
def nodeOfRow : OpenClaim := { program := "ytpcpfcllgadghaa", sum := "454da2c4a28a8bed51a728f7f47a7869c065f3a1dedfdfbdefdd8daa85ed8ba5", func := "lunette/lunettelaw05.NodeOf", spec := "nodeOf", unfollowed := true, recurses := true, apart := false }
def NodeOfSaid : Prop := nodeOfRow.holds Try.pinned (OpenSpec.ofChange nodeOfSpec)

/-- ITS FALSE NEIGHBOUR: 'it returns false'. Refute it at one input. -/
def nodeOfWrong : ChangeSpec := { name := "nodeOf", fn := fun _ => fun
  | [d1, d2] => { results := [.lit (.bool false)], args := [d1, d2] }
  | _ => none }
def NodeOfWrongFalsely : Prop := nodeOfRow.holds Try.pinned (OpenSpec.ofChange nodeOfWrong)

/-- 'lunettelaw05.NodeFinds': WHATEVER THE INPUT: true; the input reads as it did. -/
def nodeFindsSpec : ChangeSpec := { name := "nodeFinds", fn := fun _ => fun
  | [d1, d2, d3] => { results := [.lit (.bool true)], args := [d1, d2, d3] }
  | _ => none }
def nodeFindsRow : OpenClaim := { program := "ytpcpfcllgadghaa", sum := "454da2c4a28a8bed51a728f7f47a7869c065f3a1dedfdfbdefdd8daa85ed8ba5", func := "lunette/lunettelaw05.NodeFinds", spec := "nodeFinds", unfollowed := true, recurses := true, apart := false }
def NodeFindsSaid : Prop := nodeFindsRow.holds Try.pinned (OpenSpec.ofChange nodeFindsSpec)

/-- ITS FALSE NEIGHBOUR: 'it returns false'. Refute it at one input. -/
def nodeFindsWrong : ChangeSpec := { name := "nodeFinds", fn := fun _ => fun
  | [d1, d2, d3] => { results := [.lit (.bool false)], args := [d1, d2, d3] }
  | _ => none }
def NodeFindsWrongFalsely : Prop := nodeFindsRow.holds Try.pinned (OpenSpec.ofChange nodeFindsWrong)

/-- 'lunettelaw05.NodePuts': WHATEVER THE INPUT: true; the input reads as it did. -/
def nodePutsSpec : ChangeSpec := { name := "nodePuts", fn := fun _ => fun
  | [d1, d2, d3, d4] => { results := [.lit (.bool true)], args := [d1, d2, d3, d4] }
  | _ => none }
def nodePutsRow : OpenClaim := { program := "ytpcpfcllgadghaa", sum := "454da2c4a28a8bed51a728f7f47a7869c065f3a1dedfdfbdefdd8daa85ed8ba5", func := "lunette/lunettelaw05.NodePuts", spec := "nodePuts", unfollowed := true, recurses := true, apart := false }
def NodePutsSaid : Prop := nodePutsRow.holds Try.pinned (OpenSpec.ofChange nodePutsSpec)

/-- ITS FALSE NEIGHBOUR: 'it returns false'. Refute it at one input. -/
def nodePutsWrong : ChangeSpec := { name := "nodePuts", fn := fun _ => fun
  | [d1, d2, d3, d4] => { results := [.lit (.bool false)], args := [d1, d2, d3, d4] }
  | _ => none }
def NodePutsWrongFalsely : Prop := nodePutsRow.holds Try.pinned (OpenSpec.ofChange nodePutsWrong)

/-- 'lunettelaw05.NodeSplits': WHATEVER THE INPUT: true; the input reads as it did. -/
def nodeSplitsSpec : ChangeSpec := { name := "nodeSplits", fn := fun _ => fun
  | [d] => { results := [.lit (.bool true)], args := [d] }
  | _ => none }
def nodeSplitsRow : OpenClaim := { program := "ytpcpfcllgadghaa", sum := "454da2c4a28a8bed51a728f7f47a7869c065f3a1dedfdfbdefdd8daa85ed8ba5", func := "lunette/lunettelaw05.NodeSplits", spec := "nodeSplits", unfollowed := true, recurses := true, apart := false }
def NodeSplitsSaid : Prop := nodeSplitsRow.holds Try.pinned (OpenSpec.ofChange nodeSplitsSpec)

/-- ITS FALSE NEIGHBOUR: 'it returns false'. Refute it at one input. -/
def nodeSplitsWrong : ChangeSpec := { name := "nodeSplits", fn := fun _ => fun
  | [d] => { results := [.lit (.bool false)], args := [d] }
  | _ => none }
def NodeSplitsWrongFalsely : Prop := nodeSplitsRow.holds Try.pinned (OpenSpec.ofChange nodeSplitsWrong)

/-- 'lunettelaw05.NodeJoins': WHATEVER THE INPUT: true; the input reads as it did. -/
def nodeJoinsSpec : ChangeSpec := { name := "nodeJoins", fn := fun _ => fun
  | [d1, d2, d3] => { results := [.lit (.bool true)], args := [d1, d2, d3] }
  | _ => none }
def nodeJoinsRow : OpenClaim := { program := "ytpcpfcllgadghaa", sum := "454da2c4a28a8bed51a728f7f47a7869c065f3a1dedfdfbdefdd8daa85ed8ba5", func := "lunette/lunettelaw05.NodeJoins", spec := "nodeJoins", unfollowed := true, recurses := true, apart := false }
def NodeJoinsSaid : Prop := nodeJoinsRow.holds Try.pinned (OpenSpec.ofChange nodeJoinsSpec)

/-- ITS FALSE NEIGHBOUR: 'it returns false'. Refute it at one input. -/
def nodeJoinsWrong : ChangeSpec := { name := "nodeJoins", fn := fun _ => fun
  | [d1, d2, d3] => { results := [.lit (.bool false)], args := [d1, d2, d3] }
  | _ => none }
def NodeJoinsWrongFalsely : Prop := nodeJoinsRow.holds Try.pinned (OpenSpec.ofChange nodeJoinsWrong)

/-- 'lunettelaw05.NodeEither': WHATEVER THE INPUT: true; the input reads as it did. -/
def nodeEitherSpec : ChangeSpec := { name := "nodeEither", fn := fun _ => fun
  | [d1, d2, d3, d4] => { results := [.lit (.bool true)], args := [d1, d2, d3, d4] }
  | _ => none }
def nodeEitherRow : OpenClaim := { program := "ytpcpfcllgadghaa", sum := "454da2c4a28a8bed51a728f7f47a7869c065f3a1dedfdfbdefdd8daa85ed8ba5", func := "lunette/lunettelaw05.NodeEither", spec := "nodeEither", unfollowed := true, recurses := true, apart := false }
def NodeEitherSaid : Prop := nodeEitherRow.holds Try.pinned (OpenSpec.ofChange nodeEitherSpec)

/-- ITS FALSE NEIGHBOUR: 'it returns false'. Refute it at one input. -/
def nodeEitherWrong : ChangeSpec := { name := "nodeEither", fn := fun _ => fun
  | [d1, d2, d3, d4] => { results := [.lit (.bool false)], args := [d1, d2, d3, d4] }
  | _ => none }
def NodeEitherWrongFalsely : Prop := nodeEitherRow.holds Try.pinned (OpenSpec.ofChange nodeEitherWrong)

/-- 'lunettelaw05.NodeRooms': WHATEVER THE INPUT: true; the input reads as it did. -/
def nodeRoomsSpec : ChangeSpec := { name := "nodeRooms", fn := fun _ => fun
  | [d] => { results := [.lit (.bool true)], args := [d] }
  | _ => none }
def nodeRoomsRow : OpenClaim := { program := "ytpcpfcllgadghaa", sum := "454da2c4a28a8bed51a728f7f47a7869c065f3a1dedfdfbdefdd8daa85ed8ba5", func := "lunette/lunettelaw05.NodeRooms", spec := "nodeRooms", unfollowed := true, recurses := true, apart := false }
def NodeRoomsSaid : Prop := nodeRoomsRow.holds Try.pinned (OpenSpec.ofChange nodeRoomsSpec)

/-- ITS FALSE NEIGHBOUR: 'it returns false'. Refute it at one input. -/
def nodeRoomsWrong : ChangeSpec := { name := "nodeRooms", fn := fun _ => fun
  | [d] => { results := [.lit (.bool false)], args := [d] }
  | _ => none }
def NodeRoomsWrongFalsely : Prop := nodeRoomsRow.holds Try.pinned (OpenSpec.ofChange nodeRoomsWrong)

/-- 'lunettelaw05.NodePlaces': WHATEVER THE INPUT: true; the input reads as it did. -/
def nodePlacesSpec : ChangeSpec := { name := "nodePlaces", fn := fun _ => fun
  | [d1, d2] => { results := [.lit (.bool true)], args := [d1, d2] }
  | _ => none }
def nodePlacesRow : OpenClaim := { program := "ytpcpfcllgadghaa", sum := "454da2c4a28a8bed51a728f7f47a7869c065f3a1dedfdfbdefdd8daa85ed8ba5", func := "lunette/lunettelaw05.NodePlaces", spec := "nodePlaces", unfollowed := true, recurses := true, apart := false }
def NodePlacesSaid : Prop := nodePlacesRow.holds Try.pinned (OpenSpec.ofChange nodePlacesSpec)

/-- ITS FALSE NEIGHBOUR: 'it returns false'. Refute it at one input. -/
def nodePlacesWrong : ChangeSpec := { name := "nodePlaces", fn := fun _ => fun
  | [d1, d2] => { results := [.lit (.bool false)], args := [d1, d2] }
  | _ => none }
def NodePlacesWrongFalsely : Prop := nodePlacesRow.holds Try.pinned (OpenSpec.ofChange nodePlacesWrong)

/-- 'lunettelaw05.NodeHalves': WHATEVER THE INPUT: true; the input reads as it did. -/
def nodeHalvesSpec : ChangeSpec := { name := "nodeHalves", fn := fun _ => fun
  | [d1, d2] => { results := [.lit (.bool true)], args := [d1, d2] }
  | _ => none }
def nodeHalvesRow : OpenClaim := { program := "ytpcpfcllgadghaa", sum := "454da2c4a28a8bed51a728f7f47a7869c065f3a1dedfdfbdefdd8daa85ed8ba5", func := "lunette/lunettelaw05.NodeHalves", spec := "nodeHalves", unfollowed := true, recurses := true, apart := false }
def NodeHalvesSaid : Prop := nodeHalvesRow.holds Try.pinned (OpenSpec.ofChange nodeHalvesSpec)

/-- ITS FALSE NEIGHBOUR: 'it returns false'. Refute it at one input. -/
def nodeHalvesWrong : ChangeSpec := { name := "nodeHalves", fn := fun _ => fun
  | [d1, d2] => { results := [.lit (.bool false)], args := [d1, d2] }
  | _ => none }
def NodeHalvesWrongFalsely : Prop := nodeHalvesRow.holds Try.pinned (OpenSpec.ofChange nodeHalvesWrong)

/- THE SECOND FORM. 'bulk': how many values and letters a reading holds, each counted each time it is reached (what is shared counts as often as it is met; a slice's spare places count too). A statement '..UptoSaid' is the law's where the arguments, and the package variables that the reading takes, are together of bulk at most 1048576: NARROWER than '..Said'. Prove '..Said' where nothing that the law and all that it calls make is longer than what came in: it says more and counts as full. Else prove '..UptoSaid'. A law counts once. -/
mutual
def uptoBulk {H : Type} : DataW H → Nat
  | .lit (.string bytes) => bytes.length + 1
  | .lit _ => 1
  | .nil => 1
  | .ptr d => uptoBulk d + 1
  | .slice elems spare => uptoBulkAll elems + uptoBulkAll spare + 1
  | .agg parts => uptoBulkAll parts + 1
  | .iface _ d => uptoBulk d + 1
  | .map entries => uptoBulkEntries entries + 1
  | .held _ => 1
def uptoBulkAll {H : Type} : List (DataW H) → Nat
  | [] => 0
  | d :: r => uptoBulk d + uptoBulkAll r
def uptoBulkEntries {H : Type} : List (Lit × DataW H) → Nat
  | [] => 0
  | x :: r => uptoBulkEntry x + uptoBulkEntries r
def uptoBulkEntry {H : Type} : Lit × DataW H → Nat
  | (.string bytes, d) => bytes.length + uptoBulk d + 1
  | (_, d) => uptoBulk d + 1
 end
def uptoSmall : (H : Type) → List (DataW H) → Bool := fun _ ds => decide (uptoBulkAll ds ≤ 1048576)
def OpenSpec.upto (s : _root_.Go.ChangeSpec) : _root_.Go.OpenSpec := { _root_.Go.OpenSpec.ofChange s with cond := some uptoSmall }

/-- 'lunettelaw05.NodeCells', WHERE WHAT IT READS IS OF BULK AT MOST 1048576: true; the input reads as it did. -/
def nodeCellsUptoRow : OpenClaim := { program := "ytpcpfcllgadghaa", sum := "454da2c4a28a8bed51a728f7f47a7869c065f3a1dedfdfbdefdd8daa85ed8ba5", func := "lunette/lunettelaw05.NodeCells", spec := "nodeCells", unfollowed := true, recurses := true, apart := false, narrowed := true }
def NodeCellsUptoSaid : Prop := nodeCellsUptoRow.holds Try.pinned (OpenSpec.upto nodeCellsSpec)

/-- 'lunettelaw05.NodeOf', WHERE WHAT IT READS IS OF BULK AT MOST 1048576: true; the input reads as it did. -/
def nodeOfUptoRow : OpenClaim := { program := "ytpcpfcllgadghaa", sum := "454da2c4a28a8bed51a728f7f47a7869c065f3a1dedfdfbdefdd8daa85ed8ba5", func := "lunette/lunettelaw05.NodeOf", spec := "nodeOf", unfollowed := true, recurses := true, apart := false, narrowed := true }
def NodeOfUptoSaid : Prop := nodeOfUptoRow.holds Try.pinned (OpenSpec.upto nodeOfSpec)

/-- 'lunettelaw05.NodeFinds', WHERE WHAT IT READS IS OF BULK AT MOST 1048576: true; the input reads as it did. -/
def nodeFindsUptoRow : OpenClaim := { program := "ytpcpfcllgadghaa", sum := "454da2c4a28a8bed51a728f7f47a7869c065f3a1dedfdfbdefdd8daa85ed8ba5", func := "lunette/lunettelaw05.NodeFinds", spec := "nodeFinds", unfollowed := true, recurses := true, apart := false, narrowed := true }
def NodeFindsUptoSaid : Prop := nodeFindsUptoRow.holds Try.pinned (OpenSpec.upto nodeFindsSpec)

/-- 'lunettelaw05.NodePuts', WHERE WHAT IT READS IS OF BULK AT MOST 1048576: true; the input reads as it did. -/
def nodePutsUptoRow : OpenClaim := { program := "ytpcpfcllgadghaa", sum := "454da2c4a28a8bed51a728f7f47a7869c065f3a1dedfdfbdefdd8daa85ed8ba5", func := "lunette/lunettelaw05.NodePuts", spec := "nodePuts", unfollowed := true, recurses := true, apart := false, narrowed := true }
def NodePutsUptoSaid : Prop := nodePutsUptoRow.holds Try.pinned (OpenSpec.upto nodePutsSpec)

/-- 'lunettelaw05.NodeSplits', WHERE WHAT IT READS IS OF BULK AT MOST 1048576: true; the input reads as it did. -/
def nodeSplitsUptoRow : OpenClaim := { program := "ytpcpfcllgadghaa", sum := "454da2c4a28a8bed51a728f7f47a7869c065f3a1dedfdfbdefdd8daa85ed8ba5", func := "lunette/lunettelaw05.NodeSplits", spec := "nodeSplits", unfollowed := true, recurses := true, apart := false, narrowed := true }
def NodeSplitsUptoSaid : Prop := nodeSplitsUptoRow.holds Try.pinned (OpenSpec.upto nodeSplitsSpec)

/-- 'lunettelaw05.NodeJoins', WHERE WHAT IT READS IS OF BULK AT MOST 1048576: true; the input reads as it did. -/
def nodeJoinsUptoRow : OpenClaim := { program := "ytpcpfcllgadghaa", sum := "454da2c4a28a8bed51a728f7f47a7869c065f3a1dedfdfbdefdd8daa85ed8ba5", func := "lunette/lunettelaw05.NodeJoins", spec := "nodeJoins", unfollowed := true, recurses := true, apart := false, narrowed := true }
def NodeJoinsUptoSaid : Prop := nodeJoinsUptoRow.holds Try.pinned (OpenSpec.upto nodeJoinsSpec)

/-- 'lunettelaw05.NodeEither', WHERE WHAT IT READS IS OF BULK AT MOST 1048576: true; the input reads as it did. -/
def nodeEitherUptoRow : OpenClaim := { program := "ytpcpfcllgadghaa", sum := "454da2c4a28a8bed51a728f7f47a7869c065f3a1dedfdfbdefdd8daa85ed8ba5", func := "lunette/lunettelaw05.NodeEither", spec := "nodeEither", unfollowed := true, recurses := true, apart := false, narrowed := true }
def NodeEitherUptoSaid : Prop := nodeEitherUptoRow.holds Try.pinned (OpenSpec.upto nodeEitherSpec)

/-- 'lunettelaw05.NodeRooms', WHERE WHAT IT READS IS OF BULK AT MOST 1048576: true; the input reads as it did. -/
def nodeRoomsUptoRow : OpenClaim := { program := "ytpcpfcllgadghaa", sum := "454da2c4a28a8bed51a728f7f47a7869c065f3a1dedfdfbdefdd8daa85ed8ba5", func := "lunette/lunettelaw05.NodeRooms", spec := "nodeRooms", unfollowed := true, recurses := true, apart := false, narrowed := true }
def NodeRoomsUptoSaid : Prop := nodeRoomsUptoRow.holds Try.pinned (OpenSpec.upto nodeRoomsSpec)

/-- 'lunettelaw05.NodePlaces', WHERE WHAT IT READS IS OF BULK AT MOST 1048576: true; the input reads as it did. -/
def nodePlacesUptoRow : OpenClaim := { program := "ytpcpfcllgadghaa", sum := "454da2c4a28a8bed51a728f7f47a7869c065f3a1dedfdfbdefdd8daa85ed8ba5", func := "lunette/lunettelaw05.NodePlaces", spec := "nodePlaces", unfollowed := true, recurses := true, apart := false, narrowed := true }
def NodePlacesUptoSaid : Prop := nodePlacesUptoRow.holds Try.pinned (OpenSpec.upto nodePlacesSpec)

/-- 'lunettelaw05.NodeHalves', WHERE WHAT IT READS IS OF BULK AT MOST 1048576: true; the input reads as it did. -/
def nodeHalvesUptoRow : OpenClaim := { program := "ytpcpfcllgadghaa", sum := "454da2c4a28a8bed51a728f7f47a7869c065f3a1dedfdfbdefdd8daa85ed8ba5", func := "lunette/lunettelaw05.NodeHalves", spec := "nodeHalves", unfollowed := true, recurses := true, apart := false, narrowed := true }
def NodeHalvesUptoSaid : Prop := nodeHalvesUptoRow.holds Try.pinned (OpenSpec.upto nodeHalvesSpec)

end Rows
end Go.Proofs.Ytpcpfcllgadghaa
