/- Walk of a digest's Add. -/
import Derived.Test.YtdjppgmaokcgiaaDoorShaD
import Derived.Handy
import Derived.Test.YtdjppgmaokcgiaaDoorShaS
namespace Go.Proofs.YtdjppgmaokcgiaaDoor
open Go.RowKit

end Go.Proofs.YtdjppgmaokcgiaaDoor
