/- Strings as lists of bytes, compared. -/
import Derived.Lib.Strings
import Derived.WalkKit
namespace Go.Proofs.YtkmnbdomikpakaaDoor.Str
open Go.RowKit

theorem ba_ext {s t : ByteArray} (h : s.data.toList = t.data.toList) : s = t := by
  cases s; cases t; simp only [ByteArray.mk.injEq]; exact Array.toList_inj.1 h
theorem ba_beq (s t : ByteArray) : (s.toList == t.toList) = decide (s = t) := by
  rw [Lib.toList_data, Lib.toList_data, Bool.eq_iff_iff]
  simp only [beq_iff_eq, decide_eq_true_eq]
  exact ⟨ba_ext, fun h => by rw [h]⟩
theorem ba_beq_mk (s : ByteArray) (l : List UInt8) : (s.toList == (⟨l.toArray⟩ : ByteArray).toList) = decide (s.data.toList = l) := by
  rw [ba_beq]
  apply decide_eq_decide.2
  constructor
  · intro h; rw [h]
  · intro h; exact ba_ext (by rw [h])
theorem append_mk (l m : List UInt8) : (⟨l.toArray⟩ : ByteArray) ++ ⟨m.toArray⟩ = ⟨(l ++ m).toArray⟩ := ba_ext (by simp)
end Go.Proofs.YtkmnbdomikpakaaDoor.Str
