/- An argument of kind [2]string, opened. -/
import Derived.Test.YtpcpfcllgadghaaBase
import Derived.ProofKit
import Derived.OpenShut
import Derived.Test.YtpcpfcllgadghaaPlumb
namespace Go.Proofs.Ytpcpfcllgadghaa.NodeArr
open Go.ChangeShapes Go.WideShapes Go.ChangeAt Go.RowKit Base
section
variable {H : Type} {enc : TypeId × Value → H} {P : Program}
/-- an argument that is an array of two texts -/
theorem open_arr2s {W : World} {base : Nat} {t e : TypeId} {v : Value} {d : DataW H} {p : List MemPlace} (ht : P.underlying t = some (.array 2 e)) (he : P.underlying e = some .string) (hc : P.cellsOf e = 1) (hC : P.cellsOf t = 2)
    (hv : Value.okWide P W .any base t v) (h : DataW.Trod enc P W 0 (fun _ => true) true t v d p) : ∃ z0 z1 : ByteArray, v = .agg #[.string z0, .string z1] := by
  simp only [Value.okWide, ht] at hv
  obtain ⟨cs, rfl, hsz, _⟩ := hv
  rw [hC] at hsz
  obtain ⟨l⟩ := cs
  match l, hsz with
  | [c0, c1], _ =>
    obtain ⟨fuel, hf⟩ := h
    obtain ⟨xs, m, _, _, _, hl, hg⟩ := DataW.trod_array ht hf
    match xs, hl with
    | [y0, y1], _ =>
      have h0 := hg 0 (by omega)
      have h1 := hg 1 (by omega)
      simp [hc, Value.cells] at h0 h1
      obtain ⟨z0, e0, _, _⟩ := DataW.trod_string he h0
      obtain ⟨z1, e1, _, _⟩ := DataW.trod_string he h1
      simp at e0 e1
      subst e0 e1
      exact ⟨z0, z1, rfl⟩
end
end Go.Proofs.Ytpcpfcllgadghaa.NodeArr
