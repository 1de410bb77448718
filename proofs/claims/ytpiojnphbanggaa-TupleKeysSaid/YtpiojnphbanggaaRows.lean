/-
  No cell of these rows narrows 'for every input' (looked for: loops, veiled, ifaces, maps, wideKeys, modest, calm, conditions, laid).
  DERIVED. THE GIVEN ROWS OF THIS SEAT. 8 by the template 'for every input the law returns true; each argument reads behind the call as it read before'; 0 by the template 'total and deterministic' (their statements: YtpiojnphbanggaaTotals.lean).
  GIVEN WITH THE SEED: the statements are not yours to turn. If you find one false, say at which input.
  Laid BY PROGRAM, IN A SANDBOX (cutbox-rows.mjs): the forced cells as the released guide's own fill.sh prints them over the translation 330924cecbae6a45… (all of the seat's roots in one cut). By AI agents, Wed Nov 11 2026. No macro, syntax, notation, axiom, sorry.
-/
import Derived.Test.YtpiojnphbanggaaChecked
import GoSem.Claim
import GoSem.ClaimJoined
import GoSem.ClaimMapViews
import Derived.JoinedTies
import Derived.KernelRfl
namespace Go.Proofs.Ytpiojnphbanggaa
/- THE CELL 'sum', in the pinned program and in every row, IS THE sha256 OF THE DUMP (.gsa) THAT YtpiojnphbanggaaProg.lean LOADS. Nothing in Lean hashes anything: it is a label: what it is worth is what the hold of that sum in a sandbox is worth. -/
noncomputable def Try.pinned : Pinned := { name := "ytpiojnphbanggaa", sum := "330924cecbae6a45ada513bd8f5255eeab790ed6e5a26423607c62a290de0f47", checked := Try.checked }
namespace Rows
def none {H : Type} : Left H := { results := [], args := [] }

/-- 'lunettelaw11.TupleShows': WHATEVER THE INPUT: true; the input reads as it did. -/
def tupleShowsSpec : ChangeSpec := { name := "tupleShows", fn := fun _ => fun
  | [d] => { results := [.lit (.bool true)], args := [d] }
  | _ => none }
def tupleShowsRow : OpenClaim := { program := "ytpiojnphbanggaa", sum := "330924cecbae6a45ada513bd8f5255eeab790ed6e5a26423607c62a290de0f47", func := "lunette/lunettelaw11.TupleShows", spec := "tupleShows", inPlace := ["internal/bytealg.IndexByteString", "internal/bytealg.IndexString"], unfollowed := true, recurses := true, named := ["internal/bytealg.MaxLen"], apart := false }
def TupleShowsSaid : Prop := tupleShowsRow.holds Try.pinned (OpenSpec.ofChange tupleShowsSpec)

/-- ITS FALSE NEIGHBOUR: 'it returns false'. Refute it at one input. -/
def tupleShowsWrong : ChangeSpec := { name := "tupleShows", fn := fun _ => fun
  | [d] => { results := [.lit (.bool false)], args := [d] }
  | _ => none }
def TupleShowsWrongFalsely : Prop := tupleShowsRow.holds Try.pinned (OpenSpec.ofChange tupleShowsWrong)

/-- 'lunettelaw11.TupleReads': WHATEVER THE INPUT: true; the input reads as it did. -/
def tupleReadsSpec : ChangeSpec := { name := "tupleReads", fn := fun _ => fun
  | [d] => { results := [.lit (.bool true)], args := [d] }
  | _ => none }
def tupleReadsRow : OpenClaim := { program := "ytpiojnphbanggaa", sum := "330924cecbae6a45ada513bd8f5255eeab790ed6e5a26423607c62a290de0f47", func := "lunette/lunettelaw11.TupleReads", spec := "tupleReads", inPlace := ["internal/bytealg.IndexByteString", "internal/bytealg.IndexString"], unfollowed := true, recurses := true, named := ["internal/bytealg.MaxLen"], apart := false }
def TupleReadsSaid : Prop := tupleReadsRow.holds Try.pinned (OpenSpec.ofChange tupleReadsSpec)

/-- ITS FALSE NEIGHBOUR: 'it returns false'. Refute it at one input. -/
def tupleReadsWrong : ChangeSpec := { name := "tupleReads", fn := fun _ => fun
  | [d] => { results := [.lit (.bool false)], args := [d] }
  | _ => none }
def TupleReadsWrongFalsely : Prop := tupleReadsRow.holds Try.pinned (OpenSpec.ofChange tupleReadsWrong)

/-- 'lunettelaw11.TupleKeys': WHATEVER THE INPUT: true; the input reads as it did. -/
def tupleKeysSpec : ChangeSpec := { name := "tupleKeys", fn := fun _ => fun
  | [d] => { results := [.lit (.bool true)], args := [d] }
  | _ => none }
def tupleKeysRow : OpenClaim := { program := "ytpiojnphbanggaa", sum := "330924cecbae6a45ada513bd8f5255eeab790ed6e5a26423607c62a290de0f47", func := "lunette/lunettelaw11.TupleKeys", spec := "tupleKeys", inPlace := ["internal/bytealg.IndexByteString", "internal/bytealg.IndexString"], unfollowed := true, recurses := true, named := ["internal/bytealg.MaxLen"], apart := false }
def TupleKeysSaid : Prop := tupleKeysRow.holds Try.pinned (OpenSpec.ofChange tupleKeysSpec)

/-- ITS FALSE NEIGHBOUR: 'it returns false'. Refute it at one input. -/
def tupleKeysWrong : ChangeSpec := { name := "tupleKeys", fn := fun _ => fun
  | [d] => { results := [.lit (.bool false)], args := [d] }
  | _ => none }
def TupleKeysWrongFalsely : Prop := tupleKeysRow.holds Try.pinned (OpenSpec.ofChange tupleKeysWrong)

/-- 'lunettelaw11.TupleOfKeys': WHATEVER THE INPUT: true; the input reads as it did. -/
def tupleOfKeysSpec : ChangeSpec := { name := "tupleOfKeys", fn := fun _ => fun
  | [d] => { results := [.lit (.bool true)], args := [d] }
  | _ => none }
def tupleOfKeysRow : OpenClaim := { program := "ytpiojnphbanggaa", sum := "330924cecbae6a45ada513bd8f5255eeab790ed6e5a26423607c62a290de0f47", func := "lunette/lunettelaw11.TupleOfKeys", spec := "tupleOfKeys", inPlace := ["internal/bytealg.IndexByteString", "internal/bytealg.IndexString"], unfollowed := true, recurses := true, named := ["internal/bytealg.MaxLen"], apart := false }
def TupleOfKeysSaid : Prop := tupleOfKeysRow.holds Try.pinned (OpenSpec.ofChange tupleOfKeysSpec)

/-- ITS FALSE NEIGHBOUR: 'it returns false'. Refute it at one input. -/
def tupleOfKeysWrong : ChangeSpec := { name := "tupleOfKeys", fn := fun _ => fun
  | [d] => { results := [.lit (.bool false)], args := [d] }
  | _ => none }
def TupleOfKeysWrongFalsely : Prop := tupleOfKeysRow.holds Try.pinned (OpenSpec.ofChange tupleOfKeysWrong)

/-- 'lunettelaw11.TupleOrder': WHATEVER THE INPUT: true; the input reads as it did. -/
def tupleOrderSpec : ChangeSpec := { name := "tupleOrder", fn := fun _ => fun
  | [d1, d2] => { results := [.lit (.bool true)], args := [d1, d2] }
  | _ => none }
def tupleOrderRow : OpenClaim := { program := "ytpiojnphbanggaa", sum := "330924cecbae6a45ada513bd8f5255eeab790ed6e5a26423607c62a290de0f47", func := "lunette/lunettelaw11.TupleOrder", spec := "tupleOrder", inPlace := ["internal/bytealg.IndexByteString", "internal/bytealg.IndexString"], unfollowed := true, recurses := true, named := ["internal/bytealg.MaxLen"], apart := false }
def TupleOrderSaid : Prop := tupleOrderRow.holds Try.pinned (OpenSpec.ofChange tupleOrderSpec)

/-- ITS FALSE NEIGHBOUR: 'it returns false'. Refute it at one input. -/
def tupleOrderWrong : ChangeSpec := { name := "tupleOrder", fn := fun _ => fun
  | [d1, d2] => { results := [.lit (.bool false)], args := [d1, d2] }
  | _ => none }
def TupleOrderWrongFalsely : Prop := tupleOrderRow.holds Try.pinned (OpenSpec.ofChange tupleOrderWrong)

/-- 'lunettelaw11.TupleBacks': WHATEVER THE INPUT: true; the input reads as it did. -/
def tupleBacksSpec : ChangeSpec := { name := "tupleBacks", fn := fun _ => fun
  | [d1, d2] => { results := [.lit (.bool true)], args := [d1, d2] }
  | _ => none }
def tupleBacksRow : OpenClaim := { program := "ytpiojnphbanggaa", sum := "330924cecbae6a45ada513bd8f5255eeab790ed6e5a26423607c62a290de0f47", func := "lunette/lunettelaw11.TupleBacks", spec := "tupleBacks", inPlace := ["internal/bytealg.IndexByteString", "internal/bytealg.IndexString"], unfollowed := true, recurses := true, named := ["internal/bytealg.MaxLen"], apart := false }
def TupleBacksSaid : Prop := tupleBacksRow.holds Try.pinned (OpenSpec.ofChange tupleBacksSpec)

/-- ITS FALSE NEIGHBOUR: 'it returns false'. Refute it at one input. -/
def tupleBacksWrong : ChangeSpec := { name := "tupleBacks", fn := fun _ => fun
  | [d1, d2] => { results := [.lit (.bool false)], args := [d1, d2] }
  | _ => none }
def TupleBacksWrongFalsely : Prop := tupleBacksRow.holds Try.pinned (OpenSpec.ofChange tupleBacksWrong)

/-- 'lunettelaw11.TupleApart': WHATEVER THE INPUT: true; the input reads as it did. -/
def tupleApartSpec : ChangeSpec := { name := "tupleApart", fn := fun _ => fun
  | [d1, d2] => { results := [.lit (.bool true)], args := [d1, d2] }
  | _ => none }
def tupleApartRow : OpenClaim := { program := "ytpiojnphbanggaa", sum := "330924cecbae6a45ada513bd8f5255eeab790ed6e5a26423607c62a290de0f47", func := "lunette/lunettelaw11.TupleApart", spec := "tupleApart", inPlace := ["internal/bytealg.IndexByteString", "internal/bytealg.IndexString"], unfollowed := true, recurses := true, named := ["internal/bytealg.MaxLen"], apart := false }
def TupleApartSaid : Prop := tupleApartRow.holds Try.pinned (OpenSpec.ofChange tupleApartSpec)

/-- ITS FALSE NEIGHBOUR: 'it returns false'. Refute it at one input. -/
def tupleApartWrong : ChangeSpec := { name := "tupleApart", fn := fun _ => fun
  | [d1, d2] => { results := [.lit (.bool false)], args := [d1, d2] }
  | _ => none }
def TupleApartWrongFalsely : Prop := tupleApartRow.holds Try.pinned (OpenSpec.ofChange tupleApartWrong)

/-- 'lunettelaw11.TupleParts': WHATEVER THE INPUT: true; the input reads as it did. -/
def tuplePartsSpec : ChangeSpec := { name := "tupleParts", fn := fun _ => fun
  | [d] => { results := [.lit (.bool true)], args := [d] }
  | _ => none }
def tuplePartsRow : OpenClaim := { program := "ytpiojnphbanggaa", sum := "330924cecbae6a45ada513bd8f5255eeab790ed6e5a26423607c62a290de0f47", func := "lunette/lunettelaw11.TupleParts", spec := "tupleParts", inPlace := ["internal/bytealg.IndexByteString", "internal/bytealg.IndexString"], unfollowed := true, recurses := true, named := ["internal/bytealg.MaxLen"], apart := false }
def TuplePartsSaid : Prop := tuplePartsRow.holds Try.pinned (OpenSpec.ofChange tuplePartsSpec)

/-- ITS FALSE NEIGHBOUR: 'it returns false'. Refute it at one input. -/
def tuplePartsWrong : ChangeSpec := { name := "tupleParts", fn := fun _ => fun
  | [d] => { results := [.lit (.bool false)], args := [d] }
  | _ => none }
def TuplePartsWrongFalsely : Prop := tuplePartsRow.holds Try.pinned (OpenSpec.ofChange tuplePartsWrong)

/- THE SECOND FORM. 'bulk': how many values and letters a reading holds, each counted each time it is reached (what is shared counts as often as it is met; a slice's spare places count too). A statement '..UptoSaid' is the law's where the arguments, and the package variables that the reading takes, are together of bulk at most 1048576: NARROWER than '..Said'. Prove '..Said' where nothing that the law and all that it calls make is longer than what came in: it says more and counts as full. Else prove '..UptoSaid'. A law counts once. -/
mutual
def uptoBulk {H : Type} : DataW H → Nat
  | .lit (.string bytes) => bytes.length + 1
  | .lit _ => 1
  | .nil => 1
  | .ptr d => uptoBulk d + 1
  | .slice elems spare => uptoBulkAll elems + uptoBulkAll spare + 1
  | .agg parts => uptoBulkAll parts + 1
  | .iface _ d => uptoBulk d + 1
  | .map entries => uptoBulkEntries entries + 1
  | .held _ => 1
def uptoBulkAll {H : Type} : List (DataW H) → Nat
  | [] => 0
  | d :: r => uptoBulk d + uptoBulkAll r
def uptoBulkEntries {H : Type} : List (Lit × DataW H) → Nat
  | [] => 0
  | x :: r => uptoBulkEntry x + uptoBulkEntries r
def uptoBulkEntry {H : Type} : Lit × DataW H → Nat
  | (.string bytes, d) => bytes.length + uptoBulk d + 1
  | (_, d) => uptoBulk d + 1
 end
def uptoSmall : (H : Type) → List (DataW H) → Bool := fun _ ds => decide (uptoBulkAll ds ≤ 1048576)
def OpenSpec.upto (s : _root_.Go.ChangeSpec) : _root_.Go.OpenSpec := { _root_.Go.OpenSpec.ofChange s with cond := some uptoSmall }

/-- 'lunettelaw11.TupleShows', WHERE WHAT IT READS IS OF BULK AT MOST 1048576: true; the input reads as it did. -/
def tupleShowsUptoRow : OpenClaim := { program := "ytpiojnphbanggaa", sum := "330924cecbae6a45ada513bd8f5255eeab790ed6e5a26423607c62a290de0f47", func := "lunette/lunettelaw11.TupleShows", spec := "tupleShows", inPlace := ["internal/bytealg.IndexByteString", "internal/bytealg.IndexString"], unfollowed := true, recurses := true, named := ["internal/bytealg.MaxLen"], apart := false, narrowed := true }
def TupleShowsUptoSaid : Prop := tupleShowsUptoRow.holds Try.pinned (OpenSpec.upto tupleShowsSpec)

/-- 'lunettelaw11.TupleReads', WHERE WHAT IT READS IS OF BULK AT MOST 1048576: true; the input reads as it did. -/
def tupleReadsUptoRow : OpenClaim := { program := "ytpiojnphbanggaa", sum := "330924cecbae6a45ada513bd8f5255eeab790ed6e5a26423607c62a290de0f47", func := "lunette/lunettelaw11.TupleReads", spec := "tupleReads", inPlace := ["internal/bytealg.IndexByteString", "internal/bytealg.IndexString"], unfollowed := true, recurses := true, named := ["internal/bytealg.MaxLen"], apart := false, narrowed := true }
def TupleReadsUptoSaid : Prop := tupleReadsUptoRow.holds Try.pinned (OpenSpec.upto tupleReadsSpec)

/-- 'lunettelaw11.TupleKeys', WHERE WHAT IT READS IS OF BULK AT MOST 1048576: true; the input reads as it did. -/
def tupleKeysUptoRow : OpenClaim := { program := "ytpiojnphbanggaa", sum := "330924cecbae6a45ada513bd8f5255eeab790ed6e5a26423607c62a290de0f47", func := "lunette/lunettelaw11.TupleKeys", spec := "tupleKeys", inPlace := ["internal/bytealg.IndexByteString", "internal/bytealg.IndexString"], unfollowed := true, recurses := true, named := ["internal/bytealg.MaxLen"], apart := false, narrowed := true }
def TupleKeysUptoSaid : Prop := tupleKeysUptoRow.holds Try.pinned (OpenSpec.upto tupleKeysSpec)

/-- 'lunettelaw11.TupleOfKeys', WHERE WHAT IT READS IS OF BULK AT MOST 1048576: true; the input reads as it did. -/
def tupleOfKeysUptoRow : OpenClaim := { program := "ytpiojnphbanggaa", sum := "330924cecbae6a45ada513bd8f5255eeab790ed6e5a26423607c62a290de0f47", func := "lunette/lunettelaw11.TupleOfKeys", spec := "tupleOfKeys", inPlace := ["internal/bytealg.IndexByteString", "internal/bytealg.IndexString"], unfollowed := true, recurses := true, named := ["internal/bytealg.MaxLen"], apart := false, narrowed := true }
def TupleOfKeysUptoSaid : Prop := tupleOfKeysUptoRow.holds Try.pinned (OpenSpec.upto tupleOfKeysSpec)

/-- 'lunettelaw11.TupleOrder', WHERE WHAT IT READS IS OF BULK AT MOST 1048576: true; the input reads as it did. -/
def tupleOrderUptoRow : OpenClaim := { program := "ytpiojnphbanggaa", sum := "330924cecbae6a45ada513bd8f5255eeab790ed6e5a26423607c62a290de0f47", func := "lunette/lunettelaw11.TupleOrder", spec := "tupleOrder", inPlace := ["internal/bytealg.IndexByteString", "internal/bytealg.IndexString"], unfollowed := true, recurses := true, named := ["internal/bytealg.MaxLen"], apart := false, narrowed := true }
def TupleOrderUptoSaid : Prop := tupleOrderUptoRow.holds Try.pinned (OpenSpec.upto tupleOrderSpec)

/-- 'lunettelaw11.TupleBacks', WHERE WHAT IT READS IS OF BULK AT MOST 1048576: true; the input reads as it did. -/
def tupleBacksUptoRow : OpenClaim := { program := "ytpiojnphbanggaa", sum := "330924cecbae6a45ada513bd8f5255eeab790ed6e5a26423607c62a290de0f47", func := "lunette/lunettelaw11.TupleBacks", spec := "tupleBacks", inPlace := ["internal/bytealg.IndexByteString", "internal/bytealg.IndexString"], unfollowed := true, recurses := true, named := ["internal/bytealg.MaxLen"], apart := false, narrowed := true }
def TupleBacksUptoSaid : Prop := tupleBacksUptoRow.holds Try.pinned (OpenSpec.upto tupleBacksSpec)

/-- 'lunettelaw11.TupleApart', WHERE WHAT IT READS IS OF BULK AT MOST 1048576: true; the input reads as it did. -/
def tupleApartUptoRow : OpenClaim := { program := "ytpiojnphbanggaa", sum := "330924cecbae6a45ada513bd8f5255eeab790ed6e5a26423607c62a290de0f47", func := "lunette/lunettelaw11.TupleApart", spec := "tupleApart", inPlace := ["internal/bytealg.IndexByteString", "internal/bytealg.IndexString"], unfollowed := true, recurses := true, named := ["internal/bytealg.MaxLen"], apart := false, narrowed := true }
def TupleApartUptoSaid : Prop := tupleApartUptoRow.holds Try.pinned (OpenSpec.upto tupleApartSpec)

/-- 'lunettelaw11.TupleParts', WHERE WHAT IT READS IS OF BULK AT MOST 1048576: true; the input reads as it did. -/
def tuplePartsUptoRow : OpenClaim := { program := "ytpiojnphbanggaa", sum := "330924cecbae6a45ada513bd8f5255eeab790ed6e5a26423607c62a290de0f47", func := "lunette/lunettelaw11.TupleParts", spec := "tupleParts", inPlace := ["internal/bytealg.IndexByteString", "internal/bytealg.IndexString"], unfollowed := true, recurses := true, named := ["internal/bytealg.MaxLen"], apart := false, narrowed := true }
def TuplePartsUptoSaid : Prop := tuplePartsUptoRow.holds Try.pinned (OpenSpec.upto tuplePartsSpec)

end Rows
end Go.Proofs.Ytpiojnphbanggaa
