/- An argument that is a page, opened. -/
import Derived.Test.YtpidnkfcccboaaaGreatKPageBytes
import Derived.Test.YtpidnkfcccboaaaGreatKPlumb
import Derived.Deep.Fields
import Derived.Deep.Slices
namespace Go.Proofs.YtpidnkfcccboaaaGreat.PagePlumb
open Go.ChangeShapes Go.WideShapes Go.RowKit Base Plumb PagePlain PageSmall

section
variable {H : Type} {enc : TypeId × Value → H} {W : World} {base : Nat}
theorem open_strsT {fuel : Nat} {v : Value} {y : DataW H × List MemPlace} (hf : DataW.trod enc Tryz.prog W 0 (fun _ => true) true fuel 37 [v] = some y) :
  ∃ (A : Option Addr) (c : Nat) (ps : List ByteArray), v = .slice A ps.length c ∧ Row W W.heap.size A (PageSmall.strs ps) ∧ ps.length ≤ maxLen := by
 rcases open_strings Tryz.underlying37 Tryz.underlying9 (by kernel_rfl) hf with ⟨hcs, _⟩ | ⟨a, len, cap, ss, hcs, _, hl, hm, hz, _, hcell, hws⟩
 ·injection hcs with hcs
  exact ⟨none, 0, [], hcs, Row.nil, by simp [maxLen]⟩
 ·injection hcs with hcs
  simp only [if_true] at hz
  have hlen : (ss.take len).length = len := by rw [List.length_take]; omega
  refine ⟨some a, cap, ss.take len, by rw [hlen, hcs], fun k u hv => ?_, by omega⟩
  have hk : k < len := by
   rcases Nat.lt_or_ge k len with g | g
   ·exact g
   ·rw [List.getElem?_eq_none (by simp [PageSmall.strs]; omega)] at hv; cases hv
  have hce := hcell k (by omega)
  refine ⟨a, rfl, ?_, ?_⟩
  ·have := World.block_lt_of_cell? W _ hce
   rwa [blk_add] at this
  ·rw [hce, ← hv, PageSmall.strs, List.getElem?_map, List.getElem?_take, if_pos hk, List.getElem?_eq_getElem (by omega)]
   simp [List.getElem?_eq_getElem (show k < ss.length by omega)]
set_option maxRecDepth 100000 in
theorem open_page {v : Value} {d : DataW H} {p : List MemPlace} (hv : Value.okWide Tryz.prog W .any base 69 v) (h : DataW.Trod enc Tryz.prog W 0 (fun _ => true) true 69 v d p) :
  ∃ (P : Pg) (A : Option Addr) (c : Nat), v = pv P A c ∧ Row W W.heap.size A (PageSmall.strs P.cells) ∧ P.cells.length ≤ maxLen := by
 have hC : Tryz.prog.cellsOf 69 = 5 := by kernel_rfl
 have c3 : Tryz.prog.cellsOf 3 = 1 := by kernel_rfl
 have c22 : Tryz.prog.cellsOf 37 = 1 := by kernel_rfl
 simp only [Value.okWide, Tryz.underlying69] at hv
 obtain ⟨cs, rfl, hsz, _⟩ := hv
 rw [hC] at hsz
 obtain ⟨l⟩ := cs
 match l, hsz with
 | [v0, v1, v2, v3, v4], _ =>
  obtain ⟨fuel, hf⟩ := h
  obtain ⟨ys, n', _, _, _, hyl, hg⟩ := DataW.trod_struct Tryz.underlying69 hf
  have f0 := hg 0 _ rfl
  have f1 := hg 1 _ rfl
  have f2 := hg 2 _ rfl
  have f3 := hg 3 _ rfl
  have f4 := hg 4 _ rfl
  match ys, hyl with
  | [y0, y1, y2, y3, y4], _ =>
   simp [c3, Value.cells] at f0 f1 f2 f3
   simp [c22, Value.cells] at f4
   obtain ⟨z0, e0, _, _⟩ := DataW.trod_int Tryz.underlying3 f0
   obtain ⟨z1, e1, _, _⟩ := DataW.trod_int Tryz.underlying3 f1
   obtain ⟨z2, e2, _, _⟩ := DataW.trod_int Tryz.underlying3 f2
   obtain ⟨z3, e3, _, _⟩ := DataW.trod_int Tryz.underlying3 f3
   obtain ⟨A, c, ps, rfl, hrow, hl⟩ := open_strsT f4
   injection e0 with e0
   injection e1 with e1
   injection e2 with e2
   injection e3 with e3
   subst e0 e1 e2 e3
   exact ⟨⟨z0, z1, z2, z3, ps⟩, A, c, rfl, hrow, hl⟩
end
end Go.Proofs.YtpidnkfcccboaaaGreat.PagePlumb
