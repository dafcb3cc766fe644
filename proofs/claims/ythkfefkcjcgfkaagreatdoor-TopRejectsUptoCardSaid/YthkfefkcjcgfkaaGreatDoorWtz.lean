/- What the rows' list gives: the words k stand in the program's table; and a world for the witnesses, in which they do. -/
import Derived.WalkKit
import Derived.ProofKit
import Derived.OpenShut
import Derived.Deep.DeepHandedRow
import Derived.Lib.LaidTab
import Derived.ChangeMaps5
import Derived.SizedLaws
import Derived.Test.YthkfefkcjcgfkaaGreatDoorCards
import Derived.Test.YthkfefkcjcgfkaaGreatDoorTie
import Derived.Test.YthkfefkcjcgfkaaGreatDoorWa3
set_option linter.all false
namespace Go.Proofs.YthkfefkcjcgfkaaGreatDoor
open Go Go.ChangeShapes Go.WideShapes Go.ChangeAt Go.RowKit Go.ChangeMaps

theorem own : ownKnob Tryz.prog.godebug = none := by kernel_rfl
theorem laidOut : laidOutB Tryz.prog = true := by kernel_rfl
theorem gTab : Tryz.prog.globalNamed "ostler/sha.roundWords" = some 8 := by kernel_rfl
theorem gTabType : (Tryz.prog.globals[8]?).map (·.type) = some 188 := by kernel_rfl
theorem cellsTab : Tryz.prog.cellsOf 188 = 64 := by kernel_rfl
theorem cellsWord : Tryz.prog.cellsOf 145 = 1 := by kernel_rfl
theorem table {W : World} (h : laidMetH Tryz.prog [("ostler/sha.roundWords", Rows.laid_ostler_sha_roundWords)] W) : Lib.TabIs Tryz.prog W "ostler/sha.roundWords" .u32 (k64.map U) :=
  Lib.tabIs_of_head (rest := []) gTab gTabType Tryz.underlying188 Tryz.underlying145 cellsWord cellsTab h
theorem kis {W : World} (h : laidMetH Tryz.prog [("ostler/sha.roundWords", Rows.laid_ostler_sha_roundWords)] W) : KIs W := fun i hi => by
  have h1 := (table h).cell gTab i (by simpa [k64] using hi)
  have hl : i < k64.length := hi
  simpa [List.getD, hl] using h1

end Go.Proofs.YthkfefkcjcgfkaaGreatDoor
