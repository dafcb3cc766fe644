/- What the rows' list gives: the words k stand in the program's table; and a world for the witnesses, in which they do. -/
import Derived.WalkKit
import Derived.ProofKit
import Derived.OpenShut
import Derived.Deep.DeepHandedRow
import Derived.Lib.LaidTab
import Derived.ChangeMaps5
import Derived.SizedLaws
import Derived.Test.YtiblkfkeifnpaaaGreatDoorCards
import Derived.Test.YtiblkfkeifnpaaaGreatDoorTie
import Derived.Test.YtiblkfkeifnpaaaGreatDoorZa1
set_option linter.all false
namespace Go.Proofs.YtiblkfkeifnpaaaGreatDoor
open Go Go.ChangeShapes Go.WideShapes Go.ChangeAt Go.RowKit Go.ChangeMaps

theorem own : ownKnob Tryz.prog.godebug = none := by kernel_rfl
theorem laidOut : laidOutB Tryz.prog = true := by kernel_rfl
theorem gTab : Tryz.prog.globalNamed "ostler/sha.roundWords" = some 0 := by kernel_rfl
theorem gTabType : (Tryz.prog.globals[0]?).map (·.type) = some 133 := by kernel_rfl
theorem cellsTab : Tryz.prog.cellsOf 133 = 64 := by kernel_rfl
theorem cellsWord : Tryz.prog.cellsOf 127 = 1 := by kernel_rfl
theorem table {W : World} (h : laidMetH Tryz.prog [("ostler/sha.roundWords", Rows.laid_ostler_sha_roundWords)] W) : Lib.TabIs Tryz.prog W "ostler/sha.roundWords" .u32 (k64.map U) :=
  Lib.tabIs_of_head (rest := []) gTab gTabType Tryz.underlying133 Tryz.underlying127 cellsWord cellsTab h
theorem kis {W : World} (h : laidMetH Tryz.prog [("ostler/sha.roundWords", Rows.laid_ostler_sha_roundWords)] W) : KIs W := fun i hi => by
  have h1 := (table h).cell gTab i (by simpa [k64] using hi)
  have hl : i < k64.length := hi
  simpa [List.getD, hl] using h1

end Go.Proofs.YtiblkfkeifnpaaaGreatDoor
