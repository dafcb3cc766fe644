/- Walk of sha.mix: a block mixed into the state of a digest. -/
import Derived.Test.YtdjppgmaokcgiaaDoorShaB
import Derived.Test.YtdjppgmaokcgiaaDoorShaN
namespace Go.Proofs.YtdjppgmaokcgiaaDoor
open Go.RowKit

end Go.Proofs.YtdjppgmaokcgiaaDoor
