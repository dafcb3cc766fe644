/- Walk of sha.spread: the words of a block. -/
import Derived.Test.YtdjppgmaokcgiaaDoorShaA
import Derived.Test.YtdjppgmaokcgiaaDoorQt
import Derived.Lib.Hide
namespace Go.Proofs.YtdjppgmaokcgiaaDoor
open Go.RowKit

end Go.Proofs.YtdjppgmaokcgiaaDoor
