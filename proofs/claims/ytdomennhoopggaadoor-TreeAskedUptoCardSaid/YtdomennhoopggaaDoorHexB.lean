/- Walks of sha.hexValue and sha.Unhex. -/
import Derived.Test.YtdomennhoopggaaDoorHexP
namespace Go.Proofs.YtdomennhoopggaaDoor
open Go.RowKit

def dgI (x : UInt8) : Int := if hvB x then (hvN x : Int) else -1
end Go.Proofs.YtdomennhoopggaaDoor
