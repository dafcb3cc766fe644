/- What the rows' list gives: the words k stand in the program's table; and a world for the witnesses, in which they do. -/
import Derived.Test.YtkchaflijlmpgaaGreatDoorCards
import Derived.Test.YtkchaflijlmpgaaGreatDoorTie
import Derived.WalkKit
import Derived.ProofKit
import Derived.OpenShut
import Derived.Deep.DeepHandedRow
import Derived.Lib.LaidTab
import Derived.ChangeMaps5
import Derived.SizedLaws
import Derived.Test.YtkchaflijlmpgaaGreatDoorShaC
import Derived.Test.YtkchaflijlmpgaaGreatDoorLaw
namespace Go.Proofs.YtkchaflijlmpgaaGreatDoor
open Go Go.ChangeShapes Go.WideShapes Go.ChangeAt Go.RowKit Go.ChangeMaps

theorem own : ownKnob Tryz.prog.godebug = none := by kernel_rfl
theorem laidOut : laidOutB Tryz.prog = true := by kernel_rfl
theorem gTab : Tryz.prog.globalNamed "ostler/sha.roundWords" = some 0 := by kernel_rfl
theorem gTabType : (Tryz.prog.globals[0]?).map (·.type) = some 142 := by kernel_rfl
theorem cellsTab : Tryz.prog.cellsOf 142 = 64 := by kernel_rfl
theorem cellsWord : Tryz.prog.cellsOf 139 = 1 := by kernel_rfl
theorem table {W : World} (h : laidMetH Tryz.prog [("ostler/sha.roundWords", Rows.laid_ostler_sha_roundWords)] W) : Lib.TabIs Tryz.prog W "ostler/sha.roundWords" .u32 (k64.map U) :=
  Lib.tabIs_of_head (rest := []) gTab gTabType Tryz.underlying142 Tryz.underlying139 cellsWord cellsTab h
theorem kis {W : World} (h : laidMetH Tryz.prog [("ostler/sha.roundWords", Rows.laid_ostler_sha_roundWords)] W) : KIs W := fun i hi => by
  have h1 := (table h).cell gTab i (by simpa [k64] using hi)
  have hl : i < k64.length := hi
  simpa [List.getD, hl] using h1

/-- A world for the witnesses: the settled one, the table holding what its initialiser lays. -/
noncomputable def laidWorld (os : Os) : World :=
  { World.holding Tryz.prog os ⟨#[], #[], []⟩ with heap := (World.holding Tryz.prog os ⟨#[], #[], []⟩).heap.modify 0 fun
      | .cells _ t frozen => .cells (k64.map fun x => Value.int .u32 (U x)).toArray t frozen
      | o => o }
end Go.Proofs.YtkchaflijlmpgaaGreatDoor
