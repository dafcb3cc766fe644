/- - -/
import Derived.Test.YthpfpkikmaiddaaGreatDoorZtz
set_option linter.all false
namespace Go.Proofs.YthpfpkikmaiddaaGreatDoor.witnessFollows
open Go Go.ChangeShapes Go.WideShapes Go.ChangeAt Go.RowKit Go.ChangeMaps
theorem c_place:(Rows.witnessFollowsRow.inPlace==Tryz.prog.inPlace 4)=true:=by kernel_rfl
theorem c_unf:(Rows.witnessFollowsRow.unfollowed==Tryz.prog.unfollowed 4)=true:=by kernel_rfl
theorem c_rec:(Rows.witnessFollowsRow.recurses==Tryz.prog.recurses 4)=true:=by kernel_rfl
theorem c_named:(Rows.witnessFollowsRow.named==Tryz.prog.varsNamed 4)=true:=by kernel_rfl
theorem c_goes:false=Rows.witnessFollowsRow.goesBy Tryz.prog:=by kernel_rfl
theorem c_closed:joinedFacts Tryz.prog 4 Tryz.f4 (OpenSpec.ofChange Rows.witnessFollowsSpec).bare Rows.witnessFollowsRow=true:=by
 unfold joinedFacts
 rw [c_place,c_unf,c_rec,c_named]
 kernel_rfl
end Go.Proofs.YthpfpkikmaiddaaGreatDoor.witnessFollows
