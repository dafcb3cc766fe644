/- Walks of sha.hexValue and sha.Unhex. -/
import Derived.Test.YtakmlbnjgkfaiaaDoorHexP
namespace Go.Proofs.YtakmlbnjgkfaiaaDoor
open Go.RowKit

def dgI (x : UInt8) : Int := if hvB x then (hvN x : Int) else -1
end Go.Proofs.YtakmlbnjgkfaiaaDoor
