/- An argument that is a tuple, opened; and the code's contracts, as the tuple laws ask for them. -/
import Derived.Test.YtpiojnphbanggaaTupleOfKeyC
import Derived.Test.YtpiojnphbanggaaTupleText
import Derived.Test.YtpiojnphbanggaaPlumb
import Derived.Deep.Slices
import Derived.Deep.Fields
namespace Go.Proofs.Ytpiojnphbanggaa.TuplePlumb
open Go.ChangeShapes Go.WideShapes Go.RowKit Base Plumb TuplePlain TupleRef TupleSpec

theorem specs : Specs where
  name := TupleName.name_any
  id := TupleName.id_any
  check := TupleCut.check_any
  show_ := TupleText.show_any
  showUser := TupleCut.showUser_any
  readUser := TupleText.readUser_any
  read := TupleText.read_any
  key := TupleKeyC.key_any
  back := TupleKeyC.back_any
  ofKey := TupleOfKeyC.ofKey_any
  less := fun t s w _ _ => TupleKeyC.less_any t s w
section
variable {H : Type} {enc : TypeId × Value → H} {W : World} {base : Nat}
set_option maxRecDepth 100000 in
theorem open_tuple {v : Value} {d : DataW H} {p : List MemPlace} (hv : Value.okWide Try.prog W .any base 25 v) (h : DataW.Trod enc Try.prog W 0 (fun _ => true) true 25 v d p) :
    ∃ t : Tp, v = .agg (tc t) := by
  have hC : Try.prog.cellsOf 25 = 6 := by kernel_rfl
  have c9 : Try.prog.cellsOf 9 = 1 := by kernel_rfl
  have c23 : Try.prog.cellsOf 23 = 3 := by kernel_rfl
  simp only [Value.okWide, Try.underlying25] at hv
  obtain ⟨cs, rfl, hsz, _⟩ := hv
  rw [hC] at hsz
  obtain ⟨l⟩ := cs
  match l, hsz with
  | [v0, v1, v2, v3, v4, v5], _ =>
    obtain ⟨fuel, hf⟩ := h
    obtain ⟨ys, n', _, _, _, hyl, hg⟩ := DataW.trod_struct Try.underlying25 hf
    have f0 := hg 0 _ rfl
    have f1 := hg 1 _ rfl
    have f2 := hg 2 _ rfl
    have f3 := hg 3 _ rfl
    match ys, hyl with
    | [y0, y1, y2, y3], _ =>
      simp [c9, Value.cells] at f0 f1 f2
      simp [c23, Value.cells] at f3
      obtain ⟨s0, e0, _, _⟩ := DataW.trod_string Try.underlying9 f0
      obtain ⟨s1, e1, _, _⟩ := DataW.trod_string Try.underlying9 f1
      obtain ⟨s2, e2, _, _⟩ := DataW.trod_string Try.underlying9 f2
      obtain ⟨zs, m', _, _, _, hzl, hz⟩ := DataW.trod_struct Try.underlying23 f3
      have g0 := hz 0 _ rfl
      have g1 := hz 1 _ rfl
      have g2 := hz 2 _ rfl
      match zs, hzl with
      | [z0, z1, z2], _ =>
        simp [c9] at g0 g1 g2
        obtain ⟨s3, e3, _, _⟩ := DataW.trod_string Try.underlying9 g0
        obtain ⟨s4, e4, _, _⟩ := DataW.trod_string Try.underlying9 g1
        obtain ⟨s5, e5, _, _⟩ := DataW.trod_string Try.underlying9 g2
        injection e0 with e0
        injection e1 with e1
        injection e2 with e2
        injection e3 with e3
        injection e4 with e4
        injection e5 with e5
        subst e0 e1 e2 e3 e4 e5
        exact ⟨⟨s0, s1, s2, ⟨s3, s4, s5⟩⟩, rfl⟩
end
end Go.Proofs.Ytpiojnphbanggaa.TuplePlumb
