/- The contract of without: numbers without one. -/
import Derived.Test.YtpidnkfcccboaaaGreatKPagerNum
import Derived.Test.YtpidnkfcccboaaaGreatKPagerRun
import Derived.OwnWalk
namespace Go.Proofs.YtpidnkfcccboaaaGreat.PagerWithout
open Go.RowKit Base PagerSpec PagerLaw PagerCov

theorem el_ints : Elem Tryz.prog 32 3 8 := elem_mk (z := .int .i64 0) Tryz.underlying32 (by kernel_rfl) rfl
theorem ints_one (l : List Int) : ∀ u ∈ intsV l, u.oneCell' = true := fun u hu => by
 simp only [intsV, List.mem_map] at hu
 obtain ⟨b, _, rfl⟩ := hu
 rfl
end Go.Proofs.YtpidnkfcccboaaaGreat.PagerWithout
