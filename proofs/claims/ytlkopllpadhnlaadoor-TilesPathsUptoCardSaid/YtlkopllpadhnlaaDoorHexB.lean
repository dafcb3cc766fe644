/- Walks of sha.hexValue and sha.Unhex. -/
import Derived.Test.YtlkopllpadhnlaaDoorHexP
namespace Go.Proofs.YtlkopllpadhnlaaDoor
open Go.RowKit

def dgI (x : UInt8) : Int := if hvB x then (hvN x : Int) else -1
end Go.Proofs.YtlkopllpadhnlaaDoor
