/- An argument that is a node, opened; a law's end. -/
import Derived.Test.YtpcpfcllgadghaaNodeAwake
import Derived.Test.YtpcpfcllgadghaaPlumb
import Derived.Deep.Slices
import Derived.Deep.Fields
namespace Go.Proofs.Ytpcpfcllgadghaa.NodePlumb
open Go.ChangeShapes Go.WideShapes Go.RowKit Base Plumb NodePlain NodeRead NodeSlice NodeCheck NodeBox

def Law (w : World) (e : Ending) (w' : World) : Prop := e = .returned (.bool true) ∧ Below w.heap.size w w'
section
variable {H : Type} {enc : TypeId × Value → H} {W : World} {base : Nat}
theorem open_strsT {fuel : Nat} {v : Value} {y : DataW H × List MemPlace} (hf : DataW.trod enc Try.prog W 0 (fun _ => true) true fuel 22 [v] = some y) :
    ∃ (A : Option Addr) (c : Nat) (ps : List ByteArray), v = .slice A ps.length c ∧ Row W W.heap.size A (NodeRead.strs ps) ∧ ps.length ≤ c ∧ ps.length ≤ maxLen := by
  rcases open_strings Try.underlying22 Try.underlying9 (by kernel_rfl) hf with ⟨hcs, _⟩ | ⟨a, len, cap, ss, hcs, _, hl, hm, hz, _, hcell, hws⟩
  · injection hcs with hcs
    exact ⟨none, 0, [], hcs, Row.nil, Nat.le_refl _, by simp [maxLen]⟩
  · injection hcs with hcs
    simp only [if_true] at hz
    have hlen : (ss.take len).length = len := by rw [List.length_take]; omega
    refine ⟨some a, cap, ss.take len, by rw [hlen, hcs], fun k u hv => ?_, by omega, by omega⟩
    have hk : k < len := by
      rcases Nat.lt_or_ge k len with g | g
      · exact g
      · rw [List.getElem?_eq_none (by simp [NodeRead.strs]; omega)] at hv; cases hv
    have hce := hcell k (by omega)
    refine ⟨a, rfl, ?_, ?_⟩
    · have := World.block_lt_of_cell? W _ hce
      rwa [blk_add] at this
    · rw [hce, ← hv, NodeRead.strs, List.getElem?_map, List.getElem?_take, if_pos hk, List.getElem?_eq_getElem (by omega)]
      simp [List.getElem?_eq_getElem (show k < ss.length by omega)]
theorem open_intsT {fuel : Nat} {v : Value} {y : DataW H × List MemPlace} (hf : DataW.trod enc Try.prog W 0 (fun _ => true) true fuel 23 [v] = some y) :
    ∃ (A : Option Addr) (c : Nat) (ps : List Int), v = .slice A ps.length c ∧ Row W W.heap.size A (NodeRead.ints ps) ∧ ps.length ≤ c ∧ ps.length ≤ maxLen := by
  rcases open_ints Try.underlying23 Try.underlying3 (by kernel_rfl) hf with ⟨hcs, _⟩ | ⟨a, len, cap, ss, hcs, _, hl, hm, hz, _, hcell, hws⟩
  · injection hcs with hcs
    exact ⟨none, 0, [], hcs, Row.nil, Nat.le_refl _, by simp [maxLen]⟩
  · injection hcs with hcs
    simp only [if_true] at hz
    have hlen : (ss.take len).length = len := by rw [List.length_take]; omega
    refine ⟨some a, cap, ss.take len, by rw [hlen, hcs], fun k u hv => ?_, by omega, by omega⟩
    have hk : k < len := by
      rcases Nat.lt_or_ge k len with g | g
      · exact g
      · rw [List.getElem?_eq_none (by simp [NodeRead.ints]; omega)] at hv; cases hv
    have hce := hcell k (by omega)
    refine ⟨a, rfl, ?_, ?_⟩
    · have := World.block_lt_of_cell? W _ hce
      rwa [blk_add] at this
    · rw [hce, ← hv, NodeRead.ints, List.getElem?_map, List.getElem?_take, if_pos hk, List.getElem?_eq_getElem (by omega)]
      simp [List.getElem?_eq_getElem (show k < ss.length by omega)]
set_option maxRecDepth 100000 in
theorem open_node {v : Value} {d : DataW H} {p : List MemPlace} (hv : Value.okWide Try.prog W .any base 25 v) (h : DataW.Trod enc Try.prog W 0 (fun _ => true) true 25 v d p) :
    ∃ (n : Nd) (hd : Hd), v = nv n hd ∧ Lay W n hd ∧ n.keys.length ≤ maxLen ∧ n.vals.length ≤ maxLen ∧ n.kids.length ≤ maxLen := by
  have hC : Try.prog.cellsOf 25 = 4 := by kernel_rfl
  have c3 : Try.prog.cellsOf 4 = 1 := by kernel_rfl
  have c22 : Try.prog.cellsOf 22 = 1 := by kernel_rfl
  have c23 : Try.prog.cellsOf 23 = 1 := by kernel_rfl
  simp only [Value.okWide, Try.underlying25] at hv
  obtain ⟨cs, rfl, hsz, _⟩ := hv
  rw [hC] at hsz
  obtain ⟨l⟩ := cs
  match l, hsz with
  | [v0, v1, v2, v3], _ =>
    obtain ⟨fuel, hf⟩ := h
    obtain ⟨ys, n', _, _, _, hyl, hg⟩ := DataW.trod_struct Try.underlying25 hf
    have f0 := hg 0 _ rfl
    have f1 := hg 1 _ rfl
    have f2 := hg 2 _ rfl
    have f3 := hg 3 _ rfl
    match ys, hyl with
    | [y0, y1, y2, y3], _ =>
      simp [c3, Value.cells] at f0
      simp [c22, Value.cells] at f1 f2
      simp [c23, Value.cells] at f3
      obtain ⟨b, e0, _⟩ := DataW.trod_bool Try.underlying4 f0
      obtain ⟨A, c, ks, rfl, hr1, hc1, hl1⟩ := open_strsT f1
      obtain ⟨B, d, vs, rfl, hr2, hc2, hl2⟩ := open_strsT f2
      obtain ⟨D, f, ds, rfl, hr3, hc3, hl3⟩ := open_intsT f3
      injection e0 with e0
      subst e0
      exact ⟨⟨b, ks, vs, ds⟩, ⟨A, c, B, d, D, f⟩, rfl, ⟨hr1, hr2, hr3, hc1, hc2, hc3⟩, hl1, hl2, hl3⟩
end
end Go.Proofs.Ytpcpfcllgadghaa.NodePlumb
