/- What the rows' list gives: the words k stand in the program's table; and a world for the witnesses, in which they do. -/
import Derived.Test.YtdnhpldcnmbncaaDoorCards
import Derived.Test.YtdnhpldcnmbncaaDoorTie
import Derived.WalkKit
import Derived.ProofKit
import Derived.OpenShut
import Derived.Deep.DeepHandedRow
import Derived.Lib.LaidTab
import Derived.ChangeMaps5
import Derived.SizedLaws
import Derived.Test.YtdnhpldcnmbncaaDoorShaC
import Derived.Test.YtdnhpldcnmbncaaDoorLaw
namespace Go.Proofs.YtdnhpldcnmbncaaDoor
open Go Go.ChangeShapes Go.WideShapes Go.ChangeAt Go.RowKit Go.ChangeMaps

theorem own : ownKnob Tryd.prog.godebug = none := by kernel_rfl
theorem laidOut : laidOutB Tryd.prog = true := by kernel_rfl
theorem gTab : Tryd.prog.globalNamed "ostler/sha.roundWords" = some 0 := by kernel_rfl
theorem gTabType : (Tryd.prog.globals[0]?).map (·.type) = some 95 := by kernel_rfl
theorem cellsTab : Tryd.prog.cellsOf 95 = 64 := by kernel_rfl
theorem cellsWord : Tryd.prog.cellsOf 73 = 1 := by kernel_rfl
theorem table {W : World} (h : laidMetH Tryd.prog [("ostler/sha.roundWords", Rows.laid_ostler_sha_roundWords)] W) : Lib.TabIs Tryd.prog W "ostler/sha.roundWords" .u32 (k64.map U) :=
  Lib.tabIs_of_head (rest := []) gTab gTabType Tryd.underlying95 Tryd.underlying73 cellsWord cellsTab h
theorem kis {W : World} (h : laidMetH Tryd.prog [("ostler/sha.roundWords", Rows.laid_ostler_sha_roundWords)] W) : KIs W := fun i hi => by
  have h1 := (table h).cell gTab i (by simpa [k64] using hi)
  have hl : i < k64.length := hi
  simpa [List.getD, hl] using h1

/-- A world for the witnesses: the settled one, the table holding what its initialiser lays. -/
noncomputable def laidWorld (os : Os) : World :=
  { World.holding Tryd.prog os ⟨#[], #[], []⟩ with heap := (World.holding Tryd.prog os ⟨#[], #[], []⟩).heap.modify 0 fun
      | .cells _ t frozen => .cells (k64.map fun x => Value.int .u32 (U x)).toArray t frozen
      | o => o }
end Go.Proofs.YtdnhpldcnmbncaaDoor
