/- Walks of a digest's methods. -/
import Derived.Test.YtdjppgmaokcgiaaDoorShaP
import Derived.Test.YtdjppgmaokcgiaaDoorShaC
namespace Go.Proofs.YtdjppgmaokcgiaaDoor
open Go.RowKit

end Go.Proofs.YtdjppgmaokcgiaaDoor
