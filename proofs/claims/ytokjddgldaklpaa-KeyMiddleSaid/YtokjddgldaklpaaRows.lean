/-
  No cell of these rows narrows 'for every input' (looked for: loops, veiled, ifaces, maps, wideKeys, modest, calm, conditions, laid).
  DERIVED. THE GIVEN ROWS OF THIS SEAT. 10 by the template 'for every input the law returns true; each argument reads behind the call as it read before'; 0 by the template 'total and deterministic' (their statements: YtokjddgldaklpaaTotals.lean).
  GIVEN WITH THE SEED: the statements are not yours to turn. If you find one false, say at which input.
  Laid BY PROGRAM, IN A SANDBOX (cutbox-rows.mjs): the forced cells as the released guide's own fill.sh prints them over the translation dfa298dc9431d5b6… (all of the seat's roots in one cut). By AI agents, Wed Nov 11 2026. No macro, syntax, notation, axiom, sorry.
-/
import Derived.Test.YtokjddgldaklpaaChecked
import GoSem.Claim
import GoSem.ClaimJoined
import GoSem.ClaimMapViews
import Derived.JoinedTies
import Derived.KernelRfl
namespace Go.Proofs.Ytokjddgldaklpaa
/- THE CELL 'sum', in the pinned program and in every row, IS THE sha256 OF THE DUMP (.gsa) THAT YtokjddgldaklpaaProg.lean LOADS. Nothing in Lean hashes anything: it is a label: what it is worth is what the hold of that sum in a sandbox is worth. -/
noncomputable def Try.pinned : Pinned := { name := "ytokjddgldaklpaa", sum := "dfa298dc9431d5b6f28381cdd2e937c71372b3c7729259b4f2ba50cf8190b5c2", checked := Try.checked }
namespace Rows
def none {H : Type} : Left H := { results := [], args := [] }

/-- 'lunettelaw01.KeyPuts': WHATEVER THE INPUT: true; the input reads as it did. -/
def keyPutsSpec : ChangeSpec := { name := "keyPuts", fn := fun _ => fun
  | [d] => { results := [.lit (.bool true)], args := [d] }
  | _ => none }
def keyPutsRow : OpenClaim := { program := "ytokjddgldaklpaa", sum := "dfa298dc9431d5b6f28381cdd2e937c71372b3c7729259b4f2ba50cf8190b5c2", func := "lunette/lunettelaw01.KeyPuts", spec := "keyPuts", unfollowed := true, recurses := true, apart := false }
def KeyPutsSaid : Prop := keyPutsRow.holds Try.pinned (OpenSpec.ofChange keyPutsSpec)

/-- ITS FALSE NEIGHBOUR: 'it returns false'. Refute it at one input. -/
def keyPutsWrong : ChangeSpec := { name := "keyPuts", fn := fun _ => fun
  | [d] => { results := [.lit (.bool false)], args := [d] }
  | _ => none }
def KeyPutsWrongFalsely : Prop := keyPutsRow.holds Try.pinned (OpenSpec.ofChange keyPutsWrong)

/-- 'lunettelaw01.KeyGets': WHATEVER THE INPUT: true; the input reads as it did. -/
def keyGetsSpec : ChangeSpec := { name := "keyGets", fn := fun _ => fun
  | [d] => { results := [.lit (.bool true)], args := [d] }
  | _ => none }
def keyGetsRow : OpenClaim := { program := "ytokjddgldaklpaa", sum := "dfa298dc9431d5b6f28381cdd2e937c71372b3c7729259b4f2ba50cf8190b5c2", func := "lunette/lunettelaw01.KeyGets", spec := "keyGets", unfollowed := true, recurses := true, apart := false }
def KeyGetsSaid : Prop := keyGetsRow.holds Try.pinned (OpenSpec.ofChange keyGetsSpec)

/-- ITS FALSE NEIGHBOUR: 'it returns false'. Refute it at one input. -/
def keyGetsWrong : ChangeSpec := { name := "keyGets", fn := fun _ => fun
  | [d] => { results := [.lit (.bool false)], args := [d] }
  | _ => none }
def KeyGetsWrongFalsely : Prop := keyGetsRow.holds Try.pinned (OpenSpec.ofChange keyGetsWrong)

/-- 'lunettelaw01.KeyOrder': WHATEVER THE INPUT: true; the input reads as it did. -/
def keyOrderSpec : ChangeSpec := { name := "keyOrder", fn := fun _ => fun
  | [d1, d2] => { results := [.lit (.bool true)], args := [d1, d2] }
  | _ => none }
def keyOrderRow : OpenClaim := { program := "ytokjddgldaklpaa", sum := "dfa298dc9431d5b6f28381cdd2e937c71372b3c7729259b4f2ba50cf8190b5c2", func := "lunette/lunettelaw01.KeyOrder", spec := "keyOrder", unfollowed := true, recurses := true, apart := false }
def KeyOrderSaid : Prop := keyOrderRow.holds Try.pinned (OpenSpec.ofChange keyOrderSpec)

/-- ITS FALSE NEIGHBOUR: 'it returns false'. Refute it at one input. -/
def keyOrderWrong : ChangeSpec := { name := "keyOrder", fn := fun _ => fun
  | [d1, d2] => { results := [.lit (.bool false)], args := [d1, d2] }
  | _ => none }
def KeyOrderWrongFalsely : Prop := keyOrderRow.holds Try.pinned (OpenSpec.ofChange keyOrderWrong)

/-- 'lunettelaw01.KeyBegins': WHATEVER THE INPUT: true; the input reads as it did. -/
def keyBeginsSpec : ChangeSpec := { name := "keyBegins", fn := fun _ => fun
  | [d1, d2] => { results := [.lit (.bool true)], args := [d1, d2] }
  | _ => none }
def keyBeginsRow : OpenClaim := { program := "ytokjddgldaklpaa", sum := "dfa298dc9431d5b6f28381cdd2e937c71372b3c7729259b4f2ba50cf8190b5c2", func := "lunette/lunettelaw01.KeyBegins", spec := "keyBegins", unfollowed := true, recurses := true, apart := false }
def KeyBeginsSaid : Prop := keyBeginsRow.holds Try.pinned (OpenSpec.ofChange keyBeginsSpec)

/-- ITS FALSE NEIGHBOUR: 'it returns false'. Refute it at one input. -/
def keyBeginsWrong : ChangeSpec := { name := "keyBegins", fn := fun _ => fun
  | [d1, d2] => { results := [.lit (.bool false)], args := [d1, d2] }
  | _ => none }
def KeyBeginsWrongFalsely : Prop := keyBeginsRow.holds Try.pinned (OpenSpec.ofChange keyBeginsWrong)

/-- 'lunettelaw01.KeyAfter': WHATEVER THE INPUT: true; the input reads as it did. -/
def keyAfterSpec : ChangeSpec := { name := "keyAfter", fn := fun _ => fun
  | [d1, d2] => { results := [.lit (.bool true)], args := [d1, d2] }
  | _ => none }
def keyAfterRow : OpenClaim := { program := "ytokjddgldaklpaa", sum := "dfa298dc9431d5b6f28381cdd2e937c71372b3c7729259b4f2ba50cf8190b5c2", func := "lunette/lunettelaw01.KeyAfter", spec := "keyAfter", unfollowed := true, recurses := true, apart := false }
def KeyAfterSaid : Prop := keyAfterRow.holds Try.pinned (OpenSpec.ofChange keyAfterSpec)

/-- ITS FALSE NEIGHBOUR: 'it returns false'. Refute it at one input. -/
def keyAfterWrong : ChangeSpec := { name := "keyAfter", fn := fun _ => fun
  | [d1, d2] => { results := [.lit (.bool false)], args := [d1, d2] }
  | _ => none }
def KeyAfterWrongFalsely : Prop := keyAfterRow.holds Try.pinned (OpenSpec.ofChange keyAfterWrong)

/-- 'lunettelaw01.KeyNums': WHATEVER THE INPUT: true; the input reads as it did. -/
def keyNumsSpec : ChangeSpec := { name := "keyNums", fn := fun _ => fun
  | [d1, d2, d3] => { results := [.lit (.bool true)], args := [d1, d2, d3] }
  | _ => none }
def keyNumsRow : OpenClaim := { program := "ytokjddgldaklpaa", sum := "dfa298dc9431d5b6f28381cdd2e937c71372b3c7729259b4f2ba50cf8190b5c2", func := "lunette/lunettelaw01.KeyNums", spec := "keyNums", unfollowed := true, recurses := true, apart := false }
def KeyNumsSaid : Prop := keyNumsRow.holds Try.pinned (OpenSpec.ofChange keyNumsSpec)

/-- ITS FALSE NEIGHBOUR: 'it returns false'. Refute it at one input. -/
def keyNumsWrong : ChangeSpec := { name := "keyNums", fn := fun _ => fun
  | [d1, d2, d3] => { results := [.lit (.bool false)], args := [d1, d2, d3] }
  | _ => none }
def KeyNumsWrongFalsely : Prop := keyNumsRow.holds Try.pinned (OpenSpec.ofChange keyNumsWrong)

/-- 'lunettelaw01.KeyMiddle': WHATEVER THE INPUT: true; the input reads as it did. -/
def keyMiddleSpec : ChangeSpec := { name := "keyMiddle", fn := fun _ => fun
  | [d1, d2] => { results := [.lit (.bool true)], args := [d1, d2] }
  | _ => none }
def keyMiddleRow : OpenClaim := { program := "ytokjddgldaklpaa", sum := "dfa298dc9431d5b6f28381cdd2e937c71372b3c7729259b4f2ba50cf8190b5c2", func := "lunette/lunettelaw01.KeyMiddle", spec := "keyMiddle", unfollowed := true, recurses := true, apart := false }
def KeyMiddleSaid : Prop := keyMiddleRow.holds Try.pinned (OpenSpec.ofChange keyMiddleSpec)

/-- ITS FALSE NEIGHBOUR: 'it returns false'. Refute it at one input. -/
def keyMiddleWrong : ChangeSpec := { name := "keyMiddle", fn := fun _ => fun
  | [d1, d2] => { results := [.lit (.bool false)], args := [d1, d2] }
  | _ => none }
def KeyMiddleWrongFalsely : Prop := keyMiddleRow.holds Try.pinned (OpenSpec.ofChange keyMiddleWrong)

/-- 'lunettelaw01.KeyTotal': WHATEVER THE INPUT: true; the input reads as it did. -/
def keyTotalSpec : ChangeSpec := { name := "keyTotal", fn := fun _ => fun
  | [d1, d2, d3] => { results := [.lit (.bool true)], args := [d1, d2, d3] }
  | _ => none }
def keyTotalRow : OpenClaim := { program := "ytokjddgldaklpaa", sum := "dfa298dc9431d5b6f28381cdd2e937c71372b3c7729259b4f2ba50cf8190b5c2", func := "lunette/lunettelaw01.KeyTotal", spec := "keyTotal", unfollowed := true, recurses := true, apart := false }
def KeyTotalSaid : Prop := keyTotalRow.holds Try.pinned (OpenSpec.ofChange keyTotalSpec)

/-- ITS FALSE NEIGHBOUR: 'it returns false'. Refute it at one input. -/
def keyTotalWrong : ChangeSpec := { name := "keyTotal", fn := fun _ => fun
  | [d1, d2, d3] => { results := [.lit (.bool false)], args := [d1, d2, d3] }
  | _ => none }
def KeyTotalWrongFalsely : Prop := keyTotalRow.holds Try.pinned (OpenSpec.ofChange keyTotalWrong)

/-- 'lunettelaw01.KeyApart': WHATEVER THE INPUT: true; the input reads as it did. -/
def keyApartSpec : ChangeSpec := { name := "keyApart", fn := fun _ => fun
  | [d1, d2] => { results := [.lit (.bool true)], args := [d1, d2] }
  | _ => none }
def keyApartRow : OpenClaim := { program := "ytokjddgldaklpaa", sum := "dfa298dc9431d5b6f28381cdd2e937c71372b3c7729259b4f2ba50cf8190b5c2", func := "lunette/lunettelaw01.KeyApart", spec := "keyApart", unfollowed := true, recurses := true, apart := false }
def KeyApartSaid : Prop := keyApartRow.holds Try.pinned (OpenSpec.ofChange keyApartSpec)

/-- ITS FALSE NEIGHBOUR: 'it returns false'. Refute it at one input. -/
def keyApartWrong : ChangeSpec := { name := "keyApart", fn := fun _ => fun
  | [d1, d2] => { results := [.lit (.bool false)], args := [d1, d2] }
  | _ => none }
def KeyApartWrongFalsely : Prop := keyApartRow.holds Try.pinned (OpenSpec.ofChange keyApartWrong)

/-- 'lunettelaw01.KeyConcat': WHATEVER THE INPUT: true; the input reads as it did. -/
def keyConcatSpec : ChangeSpec := { name := "keyConcat", fn := fun _ => fun
  | [d1, d2] => { results := [.lit (.bool true)], args := [d1, d2] }
  | _ => none }
def keyConcatRow : OpenClaim := { program := "ytokjddgldaklpaa", sum := "dfa298dc9431d5b6f28381cdd2e937c71372b3c7729259b4f2ba50cf8190b5c2", func := "lunette/lunettelaw01.KeyConcat", spec := "keyConcat", unfollowed := true, recurses := true, apart := false }
def KeyConcatSaid : Prop := keyConcatRow.holds Try.pinned (OpenSpec.ofChange keyConcatSpec)

/-- ITS FALSE NEIGHBOUR: 'it returns false'. Refute it at one input. -/
def keyConcatWrong : ChangeSpec := { name := "keyConcat", fn := fun _ => fun
  | [d1, d2] => { results := [.lit (.bool false)], args := [d1, d2] }
  | _ => none }
def KeyConcatWrongFalsely : Prop := keyConcatRow.holds Try.pinned (OpenSpec.ofChange keyConcatWrong)

/- THE SECOND FORM. 'bulk': how many values and letters a reading holds, each counted each time it is reached (what is shared counts as often as it is met; a slice's spare places count too). A statement '..UptoSaid' is the law's where the arguments, and the package variables that the reading takes, are together of bulk at most 1048576: NARROWER than '..Said'. Prove '..Said' where nothing that the law and all that it calls make is longer than what came in: it says more and counts as full. Else prove '..UptoSaid'. A law counts once. -/
mutual
def uptoBulk {H : Type} : DataW H → Nat
  | .lit (.string bytes) => bytes.length + 1
  | .lit _ => 1
  | .nil => 1
  | .ptr d => uptoBulk d + 1
  | .slice elems spare => uptoBulkAll elems + uptoBulkAll spare + 1
  | .agg parts => uptoBulkAll parts + 1
  | .iface _ d => uptoBulk d + 1
  | .map entries => uptoBulkEntries entries + 1
  | .held _ => 1
def uptoBulkAll {H : Type} : List (DataW H) → Nat
  | [] => 0
  | d :: r => uptoBulk d + uptoBulkAll r
def uptoBulkEntries {H : Type} : List (Lit × DataW H) → Nat
  | [] => 0
  | x :: r => uptoBulkEntry x + uptoBulkEntries r
def uptoBulkEntry {H : Type} : Lit × DataW H → Nat
  | (.string bytes, d) => bytes.length + uptoBulk d + 1
  | (_, d) => uptoBulk d + 1
 end
def uptoSmall : (H : Type) → List (DataW H) → Bool := fun _ ds => decide (uptoBulkAll ds ≤ 1048576)
def OpenSpec.upto (s : _root_.Go.ChangeSpec) : _root_.Go.OpenSpec := { _root_.Go.OpenSpec.ofChange s with cond := some uptoSmall }

/-- 'lunettelaw01.KeyPuts', WHERE WHAT IT READS IS OF BULK AT MOST 1048576: true; the input reads as it did. -/
def keyPutsUptoRow : OpenClaim := { program := "ytokjddgldaklpaa", sum := "dfa298dc9431d5b6f28381cdd2e937c71372b3c7729259b4f2ba50cf8190b5c2", func := "lunette/lunettelaw01.KeyPuts", spec := "keyPuts", unfollowed := true, recurses := true, apart := false, narrowed := true }
def KeyPutsUptoSaid : Prop := keyPutsUptoRow.holds Try.pinned (OpenSpec.upto keyPutsSpec)

/-- 'lunettelaw01.KeyGets', WHERE WHAT IT READS IS OF BULK AT MOST 1048576: true; the input reads as it did. -/
def keyGetsUptoRow : OpenClaim := { program := "ytokjddgldaklpaa", sum := "dfa298dc9431d5b6f28381cdd2e937c71372b3c7729259b4f2ba50cf8190b5c2", func := "lunette/lunettelaw01.KeyGets", spec := "keyGets", unfollowed := true, recurses := true, apart := false, narrowed := true }
def KeyGetsUptoSaid : Prop := keyGetsUptoRow.holds Try.pinned (OpenSpec.upto keyGetsSpec)

/-- 'lunettelaw01.KeyOrder', WHERE WHAT IT READS IS OF BULK AT MOST 1048576: true; the input reads as it did. -/
def keyOrderUptoRow : OpenClaim := { program := "ytokjddgldaklpaa", sum := "dfa298dc9431d5b6f28381cdd2e937c71372b3c7729259b4f2ba50cf8190b5c2", func := "lunette/lunettelaw01.KeyOrder", spec := "keyOrder", unfollowed := true, recurses := true, apart := false, narrowed := true }
def KeyOrderUptoSaid : Prop := keyOrderUptoRow.holds Try.pinned (OpenSpec.upto keyOrderSpec)

/-- 'lunettelaw01.KeyBegins', WHERE WHAT IT READS IS OF BULK AT MOST 1048576: true; the input reads as it did. -/
def keyBeginsUptoRow : OpenClaim := { program := "ytokjddgldaklpaa", sum := "dfa298dc9431d5b6f28381cdd2e937c71372b3c7729259b4f2ba50cf8190b5c2", func := "lunette/lunettelaw01.KeyBegins", spec := "keyBegins", unfollowed := true, recurses := true, apart := false, narrowed := true }
def KeyBeginsUptoSaid : Prop := keyBeginsUptoRow.holds Try.pinned (OpenSpec.upto keyBeginsSpec)

/-- 'lunettelaw01.KeyAfter', WHERE WHAT IT READS IS OF BULK AT MOST 1048576: true; the input reads as it did. -/
def keyAfterUptoRow : OpenClaim := { program := "ytokjddgldaklpaa", sum := "dfa298dc9431d5b6f28381cdd2e937c71372b3c7729259b4f2ba50cf8190b5c2", func := "lunette/lunettelaw01.KeyAfter", spec := "keyAfter", unfollowed := true, recurses := true, apart := false, narrowed := true }
def KeyAfterUptoSaid : Prop := keyAfterUptoRow.holds Try.pinned (OpenSpec.upto keyAfterSpec)

/-- 'lunettelaw01.KeyNums', WHERE WHAT IT READS IS OF BULK AT MOST 1048576: true; the input reads as it did. -/
def keyNumsUptoRow : OpenClaim := { program := "ytokjddgldaklpaa", sum := "dfa298dc9431d5b6f28381cdd2e937c71372b3c7729259b4f2ba50cf8190b5c2", func := "lunette/lunettelaw01.KeyNums", spec := "keyNums", unfollowed := true, recurses := true, apart := false, narrowed := true }
def KeyNumsUptoSaid : Prop := keyNumsUptoRow.holds Try.pinned (OpenSpec.upto keyNumsSpec)

/-- 'lunettelaw01.KeyMiddle', WHERE WHAT IT READS IS OF BULK AT MOST 1048576: true; the input reads as it did. -/
def keyMiddleUptoRow : OpenClaim := { program := "ytokjddgldaklpaa", sum := "dfa298dc9431d5b6f28381cdd2e937c71372b3c7729259b4f2ba50cf8190b5c2", func := "lunette/lunettelaw01.KeyMiddle", spec := "keyMiddle", unfollowed := true, recurses := true, apart := false, narrowed := true }
def KeyMiddleUptoSaid : Prop := keyMiddleUptoRow.holds Try.pinned (OpenSpec.upto keyMiddleSpec)

/-- 'lunettelaw01.KeyTotal', WHERE WHAT IT READS IS OF BULK AT MOST 1048576: true; the input reads as it did. -/
def keyTotalUptoRow : OpenClaim := { program := "ytokjddgldaklpaa", sum := "dfa298dc9431d5b6f28381cdd2e937c71372b3c7729259b4f2ba50cf8190b5c2", func := "lunette/lunettelaw01.KeyTotal", spec := "keyTotal", unfollowed := true, recurses := true, apart := false, narrowed := true }
def KeyTotalUptoSaid : Prop := keyTotalUptoRow.holds Try.pinned (OpenSpec.upto keyTotalSpec)

/-- 'lunettelaw01.KeyApart', WHERE WHAT IT READS IS OF BULK AT MOST 1048576: true; the input reads as it did. -/
def keyApartUptoRow : OpenClaim := { program := "ytokjddgldaklpaa", sum := "dfa298dc9431d5b6f28381cdd2e937c71372b3c7729259b4f2ba50cf8190b5c2", func := "lunette/lunettelaw01.KeyApart", spec := "keyApart", unfollowed := true, recurses := true, apart := false, narrowed := true }
def KeyApartUptoSaid : Prop := keyApartUptoRow.holds Try.pinned (OpenSpec.upto keyApartSpec)

/-- 'lunettelaw01.KeyConcat', WHERE WHAT IT READS IS OF BULK AT MOST 1048576: true; the input reads as it did. -/
def keyConcatUptoRow : OpenClaim := { program := "ytokjddgldaklpaa", sum := "dfa298dc9431d5b6f28381cdd2e937c71372b3c7729259b4f2ba50cf8190b5c2", func := "lunette/lunettelaw01.KeyConcat", spec := "keyConcat", unfollowed := true, recurses := true, apart := false, narrowed := true }
def KeyConcatUptoSaid : Prop := keyConcatUptoRow.holds Try.pinned (OpenSpec.upto keyConcatSpec)

end Rows
end Go.Proofs.Ytokjddgldaklpaa
