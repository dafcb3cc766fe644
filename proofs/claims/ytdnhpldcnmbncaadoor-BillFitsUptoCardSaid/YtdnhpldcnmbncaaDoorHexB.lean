/- Walks of sha.hexValue and sha.Unhex. -/
import Derived.Test.YtdnhpldcnmbncaaDoorHexP
namespace Go.Proofs.YtdnhpldcnmbncaaDoor
open Go.RowKit

def dgI (x : UInt8) : Int := if hvB x then (hvN x : Int) else -1
end Go.Proofs.YtdnhpldcnmbncaaDoor
