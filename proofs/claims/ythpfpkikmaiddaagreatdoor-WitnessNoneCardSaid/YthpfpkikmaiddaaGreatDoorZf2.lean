/- - -/
import Derived.Test.YthpfpkikmaiddaaGreatDoorZtz
set_option linter.all false
namespace Go.Proofs.YthpfpkikmaiddaaGreatDoor.witnessNone
open Go Go.ChangeShapes Go.WideShapes Go.ChangeAt Go.RowKit Go.ChangeMaps
theorem c_place:(Rows.witnessNoneRow.inPlace==Tryz.prog.inPlace 5)=true:=by kernel_rfl
theorem c_unf:(Rows.witnessNoneRow.unfollowed==Tryz.prog.unfollowed 5)=true:=by kernel_rfl
theorem c_rec:(Rows.witnessNoneRow.recurses==Tryz.prog.recurses 5)=true:=by kernel_rfl
theorem c_named:(Rows.witnessNoneRow.named==Tryz.prog.varsNamed 5)=true:=by kernel_rfl
theorem c_goes:false=Rows.witnessNoneRow.goesBy Tryz.prog:=by kernel_rfl
theorem c_closed:joinedFacts Tryz.prog 5 Tryz.f5 (OpenSpec.ofChange Rows.witnessNoneSpec).bare Rows.witnessNoneRow=true:=by
 unfold joinedFacts
 rw [c_place,c_unf,c_rec,c_named]
 kernel_rfl
end Go.Proofs.YthpfpkikmaiddaaGreatDoor.witnessNone
