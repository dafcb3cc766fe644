/- What the rows' list gives: the words k stand in the program's table; and a world for the witnesses, in which they do. -/
import Derived.WalkKit
import Derived.ProofKit
import Derived.OpenShut
import Derived.Deep.DeepHandedRow
import Derived.Lib.LaidTab
import Derived.ChangeMaps5
import Derived.SizedLaws
import Derived.Test.YtiblkfkeifnpaaaGreatDoorCards
import Derived.Test.YtiblkfkeifnpaaaGreatDoorTie
import Derived.Test.YtiblkfkeifnpaaaGreatDoorZa1
set_option linter.all false
namespace Go.Proofs.YtiblkfkeifnpaaaGreatDoor
open Go Go.ChangeShapes Go.WideShapes Go.ChangeAt Go.RowKit Go.ChangeMaps

theorem own : ownKnob Tryz.prog.godebug = none := by kernel_rfl
theorem laidOut : laidOutB Tryz.prog = true := by kernel_rfl
end Go.Proofs.YtiblkfkeifnpaaaGreatDoor
