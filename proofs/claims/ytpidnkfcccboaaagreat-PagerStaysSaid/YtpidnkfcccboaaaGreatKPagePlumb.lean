/- An argument that is a page, opened. -/
import Derived.Test.YtpidnkfcccboaaaGreatKPageBytes
import Derived.Test.YtpidnkfcccboaaaGreatKPlumb
import Derived.Deep.Fields
import Derived.Deep.Slices
namespace Go.Proofs.YtpidnkfcccboaaaGreat.PagePlumb
open Go.ChangeShapes Go.WideShapes Go.RowKit Base Plumb PagePlain PageSmall

section
variable {H : Type} {enc : TypeId × Value → H} {W : World} {base : Nat}
theorem open_strsT {fuel : Nat} {v : Value} {y : DataW H × List MemPlace} (hf : DataW.trod enc Tryz.prog W 0 (fun _ => true) true fuel 37 [v] = some y) :
  ∃ (A : Option Addr) (c : Nat) (ps : List ByteArray), v = .slice A ps.length c ∧ Row W W.heap.size A (PageSmall.strs ps) ∧ ps.length ≤ maxLen := by
 rcases open_strings Tryz.underlying37 Tryz.underlying9 (by kernel_rfl) hf with ⟨hcs, _⟩ | ⟨a, len, cap, ss, hcs, _, hl, hm, hz, _, hcell, hws⟩
 ·injection hcs with hcs
  exact ⟨none, 0, [], hcs, Row.nil, by simp [maxLen]⟩
 ·injection hcs with hcs
  simp only [if_true] at hz
  have hlen : (ss.take len).length = len := by rw [List.length_take]; omega
  refine ⟨some a, cap, ss.take len, by rw [hlen, hcs], fun k u hv => ?_, by omega⟩
  have hk : k < len := by
   rcases Nat.lt_or_ge k len with g | g
   ·exact g
   ·rw [List.getElem?_eq_none (by simp [PageSmall.strs]; omega)] at hv; cases hv
  have hce := hcell k (by omega)
  refine ⟨a, rfl, ?_, ?_⟩
  ·have := World.block_lt_of_cell? W _ hce
   rwa [blk_add] at this
  ·rw [hce, ← hv, PageSmall.strs, List.getElem?_map, List.getElem?_take, if_pos hk, List.getElem?_eq_getElem (by omega)]
   simp [List.getElem?_eq_getElem (show k < ss.length by omega)]
end
end Go.Proofs.YtpidnkfcccboaaaGreat.PagePlumb
