/- The contract of Cover. -/
import Derived.Test.YtpidnkfcccboaaaGreatKFreeCheck
import Derived.Test.YtpidnkfcccboaaaGreatKFreeCov
import Derived.Maps.OwnOps
namespace Go.Proofs.YtpidnkfcccboaaaGreat.FreeCover
open Go.RowKit Go.Maps Base FreePlain FreeMem FreeCov

theorem lawI : Keyed Tryz.prog 3 := int_keyed Tryz.underlying3
theorem zeroI (w : World) : (zeroValue 3).run Tryz.prog w = .ok (.int .i64 0) w := by kernel_rfl
def ints (ks : List Int) : List Value := ks.map (Value.int .i64)
abbrev W64 (x : Int) : Prop := (Lit.int .i64 x).wf = true
abbrev OM (w : World) (B n : Nat) (D : D1) : Prop := w.ownsMap Tryz.prog 3 (plainElem (H := Unit) Tryz.prog 3) B n D
theorem wf_small {x : Int} (h1 : 0 ≤ x) (h2 : x ≤ 1000000) : W64 x := by
 show (Lit.int .i64 x).wf = true
 exact WalkArith.wf_i64 (by omega)
def pgs (l : Fs) : List Int := l.map (·.1)
theorem look {ks : List Int} {D : D1} {x c : Int} (h : Cnt ks D) (hat : D.atKey (kl x) (.lit (.int .i64 0)) = .lit (.int .i64 c)) : c = (ks.count x : Nat) := by
 have := (h.1 x).symm.trans hat
 injection this with this
 injection this with _ this
 exact this.symm
end Go.Proofs.YtpidnkfcccboaaaGreat.FreeCover
