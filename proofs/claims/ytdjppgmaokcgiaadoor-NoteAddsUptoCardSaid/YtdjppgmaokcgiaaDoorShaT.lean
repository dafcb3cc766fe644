/- What the rows' list gives: the words k stand in the program's table; and a world for the witnesses, in which they do. -/
import Derived.Test.YtdjppgmaokcgiaaDoorCards
import Derived.Test.YtdjppgmaokcgiaaDoorTie
import Derived.WalkKit
import Derived.ProofKit
import Derived.OpenShut
import Derived.Deep.DeepHandedRow
import Derived.Lib.LaidTab
import Derived.ChangeMaps5
import Derived.SizedLaws
import Derived.Test.YtdjppgmaokcgiaaDoorShaC
import Derived.Test.YtdjppgmaokcgiaaDoorLaw
namespace Go.Proofs.YtdjppgmaokcgiaaDoor
open Go Go.ChangeShapes Go.WideShapes Go.ChangeAt Go.RowKit Go.ChangeMaps

theorem own : ownKnob Tryd.prog.godebug = none := by kernel_rfl
theorem laidOut : laidOutB Tryd.prog = true := by kernel_rfl
theorem cellsWord : Tryd.prog.cellsOf 101 = 1 := by kernel_rfl
end Go.Proofs.YtdjppgmaokcgiaaDoor
