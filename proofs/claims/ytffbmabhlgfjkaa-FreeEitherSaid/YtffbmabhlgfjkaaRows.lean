/-
  No cell of these rows narrows 'for every input' (looked for: loops, veiled, ifaces, maps, wideKeys, modest, calm, conditions, laid).
  DERIVED. THE GIVEN ROWS OF THIS SEAT. 8 by the template 'for every input the law returns true; each argument reads behind the call as it read before'; 0 by the template 'total and deterministic' (their statements: YtffbmabhlgfjkaaTotals.lean).
  GIVEN WITH THE SEED: the statements are not yours to turn. If you find one false, say at which input.
  Laid BY PROGRAM, IN A SANDBOX (cutbox-rows.mjs): the forced cells as the released guide's own fill.sh prints them over the translation 1bbe236732d12a3b… (all of the seat's roots in one cut). By AI agents, Wed Nov 11 2026. No macro, syntax, notation, axiom, sorry.
-/
import Derived.Test.YtffbmabhlgfjkaaChecked
import GoSem.Claim
import GoSem.ClaimJoined
import GoSem.ClaimMapViews
import Derived.JoinedTies
import Derived.KernelRfl
namespace Go.Proofs.Ytffbmabhlgfjkaa
/- THE CELL 'sum', in the pinned program and in every row, IS THE sha256 OF THE DUMP (.gsa) THAT YtffbmabhlgfjkaaProg.lean LOADS. Nothing in Lean hashes anything: it is a label: what it is worth is what the hold of that sum in a sandbox is worth. -/
noncomputable def Try.pinned : Pinned := { name := "ytffbmabhlgfjkaa", sum := "1bbe236732d12a3b1c174e13f5b4e107c51a050cdea2b6b15606e7d7c918e4b2", checked := Try.checked }
namespace Rows
def none {H : Type} : Left H := { results := [], args := [] }

/-- 'lunettelaw06.FreePuts': WHATEVER THE INPUT: true; the input reads as it did. -/
def freePutsSpec : ChangeSpec := { name := "freePuts", fn := fun _ => fun
  | [d1, d2, d3, d4] => { results := [.lit (.bool true)], args := [d1, d2, d3, d4] }
  | _ => none }
def freePutsRow : OpenClaim := { program := "ytffbmabhlgfjkaa", sum := "1bbe236732d12a3b1c174e13f5b4e107c51a050cdea2b6b15606e7d7c918e4b2", func := "lunette/lunettelaw06.FreePuts", spec := "freePuts", unfollowed := true, recurses := true, apart := false }
def FreePutsSaid : Prop := freePutsRow.holds Try.pinned (OpenSpec.ofChange freePutsSpec)

/-- ITS FALSE NEIGHBOUR: 'it returns false'. Refute it at one input. -/
def freePutsWrong : ChangeSpec := { name := "freePuts", fn := fun _ => fun
  | [d1, d2, d3, d4] => { results := [.lit (.bool false)], args := [d1, d2, d3, d4] }
  | _ => none }
def FreePutsWrongFalsely : Prop := freePutsRow.holds Try.pinned (OpenSpec.ofChange freePutsWrong)

/-- 'lunettelaw06.FreeCells': WHATEVER THE INPUT: true; the input reads as it did. -/
def freeCellsSpec : ChangeSpec := { name := "freeCells", fn := fun _ => fun
  | [d] => { results := [.lit (.bool true)], args := [d] }
  | _ => none }
def freeCellsRow : OpenClaim := { program := "ytffbmabhlgfjkaa", sum := "1bbe236732d12a3b1c174e13f5b4e107c51a050cdea2b6b15606e7d7c918e4b2", func := "lunette/lunettelaw06.FreeCells", spec := "freeCells", unfollowed := true, recurses := true, apart := false }
def FreeCellsSaid : Prop := freeCellsRow.holds Try.pinned (OpenSpec.ofChange freeCellsSpec)

/-- ITS FALSE NEIGHBOUR: 'it returns false'. Refute it at one input. -/
def freeCellsWrong : ChangeSpec := { name := "freeCells", fn := fun _ => fun
  | [d] => { results := [.lit (.bool false)], args := [d] }
  | _ => none }
def FreeCellsWrongFalsely : Prop := freeCellsRow.holds Try.pinned (OpenSpec.ofChange freeCellsWrong)

/-- 'lunettelaw06.FreeOf': WHATEVER THE INPUT: true; the input reads as it did. -/
def freeOfSpec : ChangeSpec := { name := "freeOf", fn := fun _ => fun
  | [d] => { results := [.lit (.bool true)], args := [d] }
  | _ => none }
def freeOfRow : OpenClaim := { program := "ytffbmabhlgfjkaa", sum := "1bbe236732d12a3b1c174e13f5b4e107c51a050cdea2b6b15606e7d7c918e4b2", func := "lunette/lunettelaw06.FreeOf", spec := "freeOf", unfollowed := true, recurses := true, apart := false }
def FreeOfSaid : Prop := freeOfRow.holds Try.pinned (OpenSpec.ofChange freeOfSpec)

/-- ITS FALSE NEIGHBOUR: 'it returns false'. Refute it at one input. -/
def freeOfWrong : ChangeSpec := { name := "freeOf", fn := fun _ => fun
  | [d] => { results := [.lit (.bool false)], args := [d] }
  | _ => none }
def FreeOfWrongFalsely : Prop := freeOfRow.holds Try.pinned (OpenSpec.ofChange freeOfWrong)

/-- 'lunettelaw06.FreeAll': WHATEVER THE INPUT: true; the input reads as it did. -/
def freeAllSpec : ChangeSpec := { name := "freeAll", fn := fun _ => fun
  | [d1, d2] => { results := [.lit (.bool true)], args := [d1, d2] }
  | _ => none }
def freeAllRow : OpenClaim := { program := "ytffbmabhlgfjkaa", sum := "1bbe236732d12a3b1c174e13f5b4e107c51a050cdea2b6b15606e7d7c918e4b2", func := "lunette/lunettelaw06.FreeAll", spec := "freeAll", unfollowed := true, recurses := true, apart := false }
def FreeAllSaid : Prop := freeAllRow.holds Try.pinned (OpenSpec.ofChange freeAllSpec)

/-- ITS FALSE NEIGHBOUR: 'it returns false'. Refute it at one input. -/
def freeAllWrong : ChangeSpec := { name := "freeAll", fn := fun _ => fun
  | [d1, d2] => { results := [.lit (.bool false)], args := [d1, d2] }
  | _ => none }
def FreeAllWrongFalsely : Prop := freeAllRow.holds Try.pinned (OpenSpec.ofChange freeAllWrong)

/-- 'lunettelaw06.FreeCovers': WHATEVER THE INPUT: true; the input reads as it did. -/
def freeCoversSpec : ChangeSpec := { name := "freeCovers", fn := fun _ => fun
  | [d1, d2, d3] => { results := [.lit (.bool true)], args := [d1, d2, d3] }
  | _ => none }
def freeCoversRow : OpenClaim := { program := "ytffbmabhlgfjkaa", sum := "1bbe236732d12a3b1c174e13f5b4e107c51a050cdea2b6b15606e7d7c918e4b2", func := "lunette/lunettelaw06.FreeCovers", spec := "freeCovers", unfollowed := true, recurses := true, apart := false }
def FreeCoversSaid : Prop := freeCoversRow.holds Try.pinned (OpenSpec.ofChange freeCoversSpec)

/-- ITS FALSE NEIGHBOUR: 'it returns false'. Refute it at one input. -/
def freeCoversWrong : ChangeSpec := { name := "freeCovers", fn := fun _ => fun
  | [d1, d2, d3] => { results := [.lit (.bool false)], args := [d1, d2, d3] }
  | _ => none }
def FreeCoversWrongFalsely : Prop := freeCoversRow.holds Try.pinned (OpenSpec.ofChange freeCoversWrong)

/-- 'lunettelaw06.FreeEither': WHATEVER THE INPUT: true; the input reads as it did. -/
def freeEitherSpec : ChangeSpec := { name := "freeEither", fn := fun _ => fun
  | [d1, d2, d3] => { results := [.lit (.bool true)], args := [d1, d2, d3] }
  | _ => none }
def freeEitherRow : OpenClaim := { program := "ytffbmabhlgfjkaa", sum := "1bbe236732d12a3b1c174e13f5b4e107c51a050cdea2b6b15606e7d7c918e4b2", func := "lunette/lunettelaw06.FreeEither", spec := "freeEither", unfollowed := true, recurses := true, apart := false }
def FreeEitherSaid : Prop := freeEitherRow.holds Try.pinned (OpenSpec.ofChange freeEitherSpec)

/-- ITS FALSE NEIGHBOUR: 'it returns false'. Refute it at one input. -/
def freeEitherWrong : ChangeSpec := { name := "freeEither", fn := fun _ => fun
  | [d1, d2, d3] => { results := [.lit (.bool false)], args := [d1, d2, d3] }
  | _ => none }
def FreeEitherWrongFalsely : Prop := freeEitherRow.holds Try.pinned (OpenSpec.ofChange freeEitherWrong)

/-- 'lunettelaw06.FreeOldest': WHATEVER THE INPUT: true; the input reads as it did. -/
def freeOldestSpec : ChangeSpec := { name := "freeOldest", fn := fun _ => fun
  | [d1, d2, d3] => { results := [.lit (.bool true)], args := [d1, d2, d3] }
  | _ => none }
def freeOldestRow : OpenClaim := { program := "ytffbmabhlgfjkaa", sum := "1bbe236732d12a3b1c174e13f5b4e107c51a050cdea2b6b15606e7d7c918e4b2", func := "lunette/lunettelaw06.FreeOldest", spec := "freeOldest", unfollowed := true, recurses := true, apart := false }
def FreeOldestSaid : Prop := freeOldestRow.holds Try.pinned (OpenSpec.ofChange freeOldestSpec)

/-- ITS FALSE NEIGHBOUR: 'it returns false'. Refute it at one input. -/
def freeOldestWrong : ChangeSpec := { name := "freeOldest", fn := fun _ => fun
  | [d1, d2, d3] => { results := [.lit (.bool false)], args := [d1, d2, d3] }
  | _ => none }
def FreeOldestWrongFalsely : Prop := freeOldestRow.holds Try.pinned (OpenSpec.ofChange freeOldestWrong)

/-- 'lunettelaw06.FreeMoves': WHATEVER THE INPUT: true; the input reads as it did. -/
def freeMovesSpec : ChangeSpec := { name := "freeMoves", fn := fun _ => fun
  | [d1, d2] => { results := [.lit (.bool true)], args := [d1, d2] }
  | _ => none }
def freeMovesRow : OpenClaim := { program := "ytffbmabhlgfjkaa", sum := "1bbe236732d12a3b1c174e13f5b4e107c51a050cdea2b6b15606e7d7c918e4b2", func := "lunette/lunettelaw06.FreeMoves", spec := "freeMoves", unfollowed := true, recurses := true, apart := false }
def FreeMovesSaid : Prop := freeMovesRow.holds Try.pinned (OpenSpec.ofChange freeMovesSpec)

/-- ITS FALSE NEIGHBOUR: 'it returns false'. Refute it at one input. -/
def freeMovesWrong : ChangeSpec := { name := "freeMoves", fn := fun _ => fun
  | [d1, d2] => { results := [.lit (.bool false)], args := [d1, d2] }
  | _ => none }
def FreeMovesWrongFalsely : Prop := freeMovesRow.holds Try.pinned (OpenSpec.ofChange freeMovesWrong)

/- THE SECOND FORM. 'bulk': how many values and letters a reading holds, each counted each time it is reached (what is shared counts as often as it is met; a slice's spare places count too). A statement '..UptoSaid' is the law's where the arguments, and the package variables that the reading takes, are together of bulk at most 1048576: NARROWER than '..Said'. Prove '..Said' where nothing that the law and all that it calls make is longer than what came in: it says more and counts as full. Else prove '..UptoSaid'. A law counts once. -/
mutual
def uptoBulk {H : Type} : DataW H → Nat
  | .lit (.string bytes) => bytes.length + 1
  | .lit _ => 1
  | .nil => 1
  | .ptr d => uptoBulk d + 1
  | .slice elems spare => uptoBulkAll elems + uptoBulkAll spare + 1
  | .agg parts => uptoBulkAll parts + 1
  | .iface _ d => uptoBulk d + 1
  | .map entries => uptoBulkEntries entries + 1
  | .held _ => 1
def uptoBulkAll {H : Type} : List (DataW H) → Nat
  | [] => 0
  | d :: r => uptoBulk d + uptoBulkAll r
def uptoBulkEntries {H : Type} : List (Lit × DataW H) → Nat
  | [] => 0
  | x :: r => uptoBulkEntry x + uptoBulkEntries r
def uptoBulkEntry {H : Type} : Lit × DataW H → Nat
  | (.string bytes, d) => bytes.length + uptoBulk d + 1
  | (_, d) => uptoBulk d + 1
 end
def uptoSmall : (H : Type) → List (DataW H) → Bool := fun _ ds => decide (uptoBulkAll ds ≤ 1048576)
def OpenSpec.upto (s : _root_.Go.ChangeSpec) : _root_.Go.OpenSpec := { _root_.Go.OpenSpec.ofChange s with cond := some uptoSmall }

/-- 'lunettelaw06.FreePuts', WHERE WHAT IT READS IS OF BULK AT MOST 1048576: true; the input reads as it did. -/
def freePutsUptoRow : OpenClaim := { program := "ytffbmabhlgfjkaa", sum := "1bbe236732d12a3b1c174e13f5b4e107c51a050cdea2b6b15606e7d7c918e4b2", func := "lunette/lunettelaw06.FreePuts", spec := "freePuts", unfollowed := true, recurses := true, apart := false, narrowed := true }
def FreePutsUptoSaid : Prop := freePutsUptoRow.holds Try.pinned (OpenSpec.upto freePutsSpec)

/-- 'lunettelaw06.FreeCells', WHERE WHAT IT READS IS OF BULK AT MOST 1048576: true; the input reads as it did. -/
def freeCellsUptoRow : OpenClaim := { program := "ytffbmabhlgfjkaa", sum := "1bbe236732d12a3b1c174e13f5b4e107c51a050cdea2b6b15606e7d7c918e4b2", func := "lunette/lunettelaw06.FreeCells", spec := "freeCells", unfollowed := true, recurses := true, apart := false, narrowed := true }
def FreeCellsUptoSaid : Prop := freeCellsUptoRow.holds Try.pinned (OpenSpec.upto freeCellsSpec)

/-- 'lunettelaw06.FreeOf', WHERE WHAT IT READS IS OF BULK AT MOST 1048576: true; the input reads as it did. -/
def freeOfUptoRow : OpenClaim := { program := "ytffbmabhlgfjkaa", sum := "1bbe236732d12a3b1c174e13f5b4e107c51a050cdea2b6b15606e7d7c918e4b2", func := "lunette/lunettelaw06.FreeOf", spec := "freeOf", unfollowed := true, recurses := true, apart := false, narrowed := true }
def FreeOfUptoSaid : Prop := freeOfUptoRow.holds Try.pinned (OpenSpec.upto freeOfSpec)

/-- 'lunettelaw06.FreeAll', WHERE WHAT IT READS IS OF BULK AT MOST 1048576: true; the input reads as it did. -/
def freeAllUptoRow : OpenClaim := { program := "ytffbmabhlgfjkaa", sum := "1bbe236732d12a3b1c174e13f5b4e107c51a050cdea2b6b15606e7d7c918e4b2", func := "lunette/lunettelaw06.FreeAll", spec := "freeAll", unfollowed := true, recurses := true, apart := false, narrowed := true }
def FreeAllUptoSaid : Prop := freeAllUptoRow.holds Try.pinned (OpenSpec.upto freeAllSpec)

/-- 'lunettelaw06.FreeCovers', WHERE WHAT IT READS IS OF BULK AT MOST 1048576: true; the input reads as it did. -/
def freeCoversUptoRow : OpenClaim := { program := "ytffbmabhlgfjkaa", sum := "1bbe236732d12a3b1c174e13f5b4e107c51a050cdea2b6b15606e7d7c918e4b2", func := "lunette/lunettelaw06.FreeCovers", spec := "freeCovers", unfollowed := true, recurses := true, apart := false, narrowed := true }
def FreeCoversUptoSaid : Prop := freeCoversUptoRow.holds Try.pinned (OpenSpec.upto freeCoversSpec)

/-- 'lunettelaw06.FreeEither', WHERE WHAT IT READS IS OF BULK AT MOST 1048576: true; the input reads as it did. -/
def freeEitherUptoRow : OpenClaim := { program := "ytffbmabhlgfjkaa", sum := "1bbe236732d12a3b1c174e13f5b4e107c51a050cdea2b6b15606e7d7c918e4b2", func := "lunette/lunettelaw06.FreeEither", spec := "freeEither", unfollowed := true, recurses := true, apart := false, narrowed := true }
def FreeEitherUptoSaid : Prop := freeEitherUptoRow.holds Try.pinned (OpenSpec.upto freeEitherSpec)

/-- 'lunettelaw06.FreeOldest', WHERE WHAT IT READS IS OF BULK AT MOST 1048576: true; the input reads as it did. -/
def freeOldestUptoRow : OpenClaim := { program := "ytffbmabhlgfjkaa", sum := "1bbe236732d12a3b1c174e13f5b4e107c51a050cdea2b6b15606e7d7c918e4b2", func := "lunette/lunettelaw06.FreeOldest", spec := "freeOldest", unfollowed := true, recurses := true, apart := false, narrowed := true }
def FreeOldestUptoSaid : Prop := freeOldestUptoRow.holds Try.pinned (OpenSpec.upto freeOldestSpec)

/-- 'lunettelaw06.FreeMoves', WHERE WHAT IT READS IS OF BULK AT MOST 1048576: true; the input reads as it did. -/
def freeMovesUptoRow : OpenClaim := { program := "ytffbmabhlgfjkaa", sum := "1bbe236732d12a3b1c174e13f5b4e107c51a050cdea2b6b15606e7d7c918e4b2", func := "lunette/lunettelaw06.FreeMoves", spec := "freeMoves", unfollowed := true, recurses := true, apart := false, narrowed := true }
def FreeMovesUptoSaid : Prop := freeMovesUptoRow.holds Try.pinned (OpenSpec.upto freeMovesSpec)

end Rows
end Go.Proofs.Ytffbmabhlgfjkaa
