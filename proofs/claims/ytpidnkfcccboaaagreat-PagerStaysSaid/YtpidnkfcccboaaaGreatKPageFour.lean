/- The contract of the document's four. -/
import Derived.Test.YtpidnkfcccboaaaGreatKPageRef
import Derived.Test.YtpidnkfcccboaaaGreatKSumRef
namespace Go.Proofs.YtpidnkfcccboaaaGreat.PageFour
open Go.RowKit Base PagePlain PageSmall Str

def tx (l : List UInt8) : ByteArray := ⟨l.toArray⟩
end Go.Proofs.YtpidnkfcccboaaaGreat.PageFour
