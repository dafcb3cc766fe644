/- What the row of TlogNone says of the calls that it reaches. -/
import Derived.Test.YthnbhaffphopoaaGreatDoorHtz
namespace Go.Proofs.YthnbhaffphopoaaGreatDoor.tlogNone
open Go Go.ChangeShapes Go.WideShapes Go.ChangeAt Go.RowKit Go.ChangeMaps

theorem c_place : (Rows.tlogNoneRow.inPlace == Tryz.prog.inPlace 8) = true := by kernel_rfl
theorem c_unf : (Rows.tlogNoneRow.unfollowed == Tryz.prog.unfollowed 8) = true := by kernel_rfl
theorem c_rec : (Rows.tlogNoneRow.recurses == Tryz.prog.recurses 8) = true := by kernel_rfl
theorem c_named : (Rows.tlogNoneRow.named == Tryz.prog.varsNamed 8) = true := by kernel_rfl
theorem c_goes : false = Rows.tlogNoneRow.goesBy Tryz.prog := by kernel_rfl
theorem c_closed : joinedFacts Tryz.prog 8 Tryz.f8 (OpenSpec.ofChange Rows.tlogNoneSpec).bare Rows.tlogNoneRow = true := by
  unfold joinedFacts
  rw [c_place, c_unf, c_rec, c_named]
  kernel_rfl
end Go.Proofs.YthnbhaffphopoaaGreatDoor.tlogNone
