/- What the rows' list of three variables gives: the words k and the table of bits stand in the program's memory; a world for the witnesses, in which they do. -/
import Derived.Test.YtakmlbnjgkfaiaaDoorShaT
import Derived.LaidSub
import Derived.Test.YtakmlbnjgkfaiaaDoorMSa
namespace Go.Proofs.YtakmlbnjgkfaiaaDoor
open Go Go.ChangeShapes Go.WideShapes Go.ChangeAt Go.RowKit Go.ChangeMaps

theorem gT64 : Tryd.prog.globalNamed "math/bits.deBruijn64tab" = some 1 := by kernel_rfl
theorem gT64Type : (Tryd.prog.globals[1]?).map (·.type) = some 103 := by kernel_rfl
theorem cellsT64 : Tryd.prog.cellsOf 103 = 64 := by kernel_rfl
theorem cellsByte : Tryd.prog.cellsOf 5 = 1 := by kernel_rfl
theorem met_words {W : World} (h : laidMetH Tryd.prog [("math/bits.deBruijn32tab", Rows.laid_math_bits_deBruijn32tab), ("math/bits.deBruijn64tab", Rows.laid_math_bits_deBruijn64tab), ("ostler/sha.roundWords", Rows.laid_ostler_sha_roundWords)] W) :
    laidMetH Tryd.prog [("ostler/sha.roundWords", Rows.laid_ostler_sha_roundWords)] W := h.filter fun x => x.1 == "ostler/sha.roundWords"
theorem met_bits {W : World} (h : laidMetH Tryd.prog [("math/bits.deBruijn32tab", Rows.laid_math_bits_deBruijn32tab), ("math/bits.deBruijn64tab", Rows.laid_math_bits_deBruijn64tab), ("ostler/sha.roundWords", Rows.laid_ostler_sha_roundWords)] W) :
    laidMetH Tryd.prog [("math/bits.deBruijn64tab", Rows.laid_math_bits_deBruijn64tab)] W := h.filter fun x => x.1 == "math/bits.deBruijn64tab"
theorem kis3 {W : World} (h : laidMetH Tryd.prog [("math/bits.deBruijn32tab", Rows.laid_math_bits_deBruijn32tab), ("math/bits.deBruijn64tab", Rows.laid_math_bits_deBruijn64tab), ("ostler/sha.roundWords", Rows.laid_ostler_sha_roundWords)] W) : KIs W := kis (met_words h)
theorem table64 {W : World} (h : laidMetH Tryd.prog [("math/bits.deBruijn64tab", Rows.laid_math_bits_deBruijn64tab)] W) : Lib.TabIs Tryd.prog W "math/bits.deBruijn64tab" .u8 (Lib.deBruijn64tab.map fun x : Nat => (x : Int)) :=
  Lib.tabIs_of_head (rest := []) gT64 gT64Type Tryd.underlying103 Tryd.underlying5 cellsByte cellsT64 h
theorem tis3 {W : World} (h : laidMetH Tryd.prog [("math/bits.deBruijn32tab", Rows.laid_math_bits_deBruijn32tab), ("math/bits.deBruijn64tab", Rows.laid_math_bits_deBruijn64tab), ("ostler/sha.roundWords", Rows.laid_ostler_sha_roundWords)] W) : TIs W := fun i hi => by
  have h1 := (table64 (met_bits h)).cell gT64 i (by simpa using hi)
  have hl : i < Lib.deBruijn64tab.length := hi
  simpa [List.getD, hl] using h1
/-- A world for the witnesses: the settled one, the tables holding what their initialisers lay. -/
noncomputable def laidWorld3 (os : Os) : World :=
  { laidWorld os with heap := ((laidWorld os).heap.modify 1 fun
      | .cells _ t frozen => .cells (Lib.deBruijn64tab.map fun x : Nat => Value.int .u8 (x : Int)).toArray t frozen
      | o => o).modify 0 fun
      | .cells _ t frozen => .cells (Lib.deBruijn32tab.map fun x : Nat => Value.int .u8 (x : Int)).toArray t frozen
      | o => o }
end Go.Proofs.YtakmlbnjgkfaiaaDoor
