/- A frame of so many slots, written out by what each slot holds. -/
import Derived.Test.YtpiojnphbanggaaInv
namespace Go.Proofs.Ytpiojnphbanggaa.Frames
open Go.RowKit

theorem frame {a : Act} {n : Nat} {f : Nat → Value} (h : a.tmps.size = n) (hd : a.defers = []) (hf : ∀ i, a.tmps.getD i undef = f i) {l : List Value} (hl : (List.range n).map f = l) : a = ⟨l.toArray, []⟩ := by
  obtain ⟨t, ds⟩ := a
  dsimp only at h hd hf
  subst hd hl h
  have e : t = ((List.range t.size).map f).toArray := by
    refine Array.ext (by simp) fun i h1 h2 => ?_
    have h3 := hf i
    rw [Array.getD_eq_getD_getElem?, Array.getElem?_eq_getElem h1] at h3
    simpa using h3
  rw [← e]
end Go.Proofs.Ytpiojnphbanggaa.Frames
