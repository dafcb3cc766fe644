/- What the row of TlogGrows says of the calls that it reaches. -/
import Derived.Test.YthpfpkikmaiddaaGreatDoorGtz
set_option linter.all false
set_option linter.unusedVariables false
set_option linter.unusedSimpArgs false
namespace Go.Proofs.YthpfpkikmaiddaaGreatDoor.tlogGrows
open Go Go.ChangeShapes Go.WideShapes Go.ChangeAt Go.RowKit Go.ChangeMaps

theorem c_place : (Rows.tlogGrowsRow.inPlace == Tryz.prog.inPlace 3) = true := by kernel_rfl
theorem c_unf : (Rows.tlogGrowsRow.unfollowed == Tryz.prog.unfollowed 3) = true := by kernel_rfl
theorem c_rec : (Rows.tlogGrowsRow.recurses == Tryz.prog.recurses 3) = true := by kernel_rfl
theorem c_named : (Rows.tlogGrowsRow.named == Tryz.prog.varsNamed 3) = true := by kernel_rfl
theorem c_goes : false = Rows.tlogGrowsRow.goesBy Tryz.prog := by kernel_rfl
theorem c_closed : joinedFacts Tryz.prog 3 Tryz.f3 (OpenSpec.ofChange Rows.tlogGrowsSpec).bare Rows.tlogGrowsRow = true := by
  unfold joinedFacts
  rw [c_place, c_unf, c_rec, c_named]
  kernel_rfl
end Go.Proofs.YthpfpkikmaiddaaGreatDoor.tlogGrows
