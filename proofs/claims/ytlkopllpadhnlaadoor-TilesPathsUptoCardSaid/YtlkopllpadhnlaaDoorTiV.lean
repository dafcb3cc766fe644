/- What the rows' list of four variables gives: the words k, the table of bits and the powers of ten stand in the program's memory; a world for the witnesses, in which they do. -/
import Derived.Test.YtlkopllpadhnlaaDoorShaT
import Derived.LaidSub
import Derived.Test.YtlkopllpadhnlaaDoorMUa
namespace Go.Proofs.YtlkopllpadhnlaaDoor
open Go Go.ChangeShapes Go.WideShapes Go.ChangeAt Go.RowKit Go.ChangeMaps

theorem gT64 : Tryd.prog.globalNamed "math/bits.deBruijn64tab" = some 6 := by kernel_rfl
theorem gT64Type : (Tryd.prog.globals[6]?).map (·.type) = some 121 := by kernel_rfl
theorem cellsT64 : Tryd.prog.cellsOf 121 = 64 := by kernel_rfl
theorem cellsByte : Tryd.prog.cellsOf 5 = 1 := by kernel_rfl
theorem gP10 : Tryd.prog.globalNamed "internal/strconv.uint64pow10" = some 1 := by kernel_rfl
theorem gP10Type : (Tryd.prog.globals[1]?).map (·.type) = some 155 := by kernel_rfl
theorem cellsP10 : Tryd.prog.cellsOf 155 = 20 := by kernel_rfl
theorem cellsU64 : Tryd.prog.cellsOf 128 = 1 := by kernel_rfl
theorem met_words {W : World} (h : laidMetH Tryd.prog [("math/bits.deBruijn32tab", Rows.laid_math_bits_deBruijn32tab), ("math/bits.deBruijn64tab", Rows.laid_math_bits_deBruijn64tab), ("internal/strconv.uint64pow10", Rows.laid_internal_strconv_uint64pow10), ("ostler/sha.roundWords", Rows.laid_ostler_sha_roundWords)] W) :
    laidMetH Tryd.prog [("ostler/sha.roundWords", Rows.laid_ostler_sha_roundWords)] W := h.filter fun x => x.1 == "ostler/sha.roundWords"
theorem met_bits {W : World} (h : laidMetH Tryd.prog [("math/bits.deBruijn32tab", Rows.laid_math_bits_deBruijn32tab), ("math/bits.deBruijn64tab", Rows.laid_math_bits_deBruijn64tab), ("internal/strconv.uint64pow10", Rows.laid_internal_strconv_uint64pow10), ("ostler/sha.roundWords", Rows.laid_ostler_sha_roundWords)] W) :
    laidMetH Tryd.prog [("math/bits.deBruijn64tab", Rows.laid_math_bits_deBruijn64tab)] W := h.filter fun x => x.1 == "math/bits.deBruijn64tab"
theorem met_tens {W : World} (h : laidMetH Tryd.prog [("math/bits.deBruijn32tab", Rows.laid_math_bits_deBruijn32tab), ("math/bits.deBruijn64tab", Rows.laid_math_bits_deBruijn64tab), ("internal/strconv.uint64pow10", Rows.laid_internal_strconv_uint64pow10), ("ostler/sha.roundWords", Rows.laid_ostler_sha_roundWords)] W) :
    laidMetH Tryd.prog [("internal/strconv.uint64pow10", Rows.laid_internal_strconv_uint64pow10)] W := h.filter fun x => x.1 == "internal/strconv.uint64pow10"
theorem table64 {W : World} (h : laidMetH Tryd.prog [("math/bits.deBruijn64tab", Rows.laid_math_bits_deBruijn64tab)] W) : Lib.TabIs Tryd.prog W "math/bits.deBruijn64tab" .u8 (Lib.deBruijn64tab.map fun x : Nat => (x : Int)) :=
  Lib.tabIs_of_head (rest := []) gT64 gT64Type Tryd.underlying121 Tryd.underlying5 cellsByte cellsT64 h
theorem table10 {W : World} (h : laidMetH Tryd.prog [("internal/strconv.uint64pow10", Rows.laid_internal_strconv_uint64pow10)] W) : Lib.TabIs Tryd.prog W "internal/strconv.uint64pow10" .u64 Lib.pow10Tab :=
  Lib.tabIs_of_head (rest := []) gP10 gP10Type Tryd.underlying155 Tryd.underlying128 cellsU64 cellsP10 h
theorem tis4 {W : World} (h : laidMetH Tryd.prog [("math/bits.deBruijn64tab", Rows.laid_math_bits_deBruijn64tab)] W) : TIs W := fun i hi => by
  have h1 := (table64 h).cell gT64 i (by simpa using hi)
  have hl : i < Lib.deBruijn64tab.length := hi
  simpa [List.getD, hl] using h1
theorem ld4 {W : World} (h : laidMetH Tryd.prog [("math/bits.deBruijn32tab", Rows.laid_math_bits_deBruijn32tab), ("math/bits.deBruijn64tab", Rows.laid_math_bits_deBruijn64tab), ("internal/strconv.uint64pow10", Rows.laid_internal_strconv_uint64pow10), ("ostler/sha.roundWords", Rows.laid_ostler_sha_roundWords)] W) : Ld W.heap.size W := by
  have h1 := kis (met_words h)
  have h2 := tis4 (met_bits h)
  have h3 := table10 (met_tens h)
  have hc := h3.cell gP10 0 (by rw [Lib.pow10Tab_length]; decide)
  refine ⟨h1, h2, fun w' hb => ?_, h1.lt, h2.lt⟩
  unfold Lib.TabIs World.var? at *
  rw [gP10] at h3 ⊢
  simp only [Option.bind_some] at h3 ⊢
  rw [hb.block _ (block_lt_of_cell hc)]
  exact h3
/-- A world for the witnesses: the settled one, the tables holding what their initialisers lay. -/
noncomputable def laidWorld4 (os : Os) : World :=
  { laidWorld os with heap := (((laidWorld os).heap.modify 6 fun
      | .cells _ t frozen => .cells (Lib.deBruijn64tab.map fun x : Nat => Value.int .u8 (x : Int)).toArray t frozen
      | o => o).modify 5 fun
      | .cells _ t frozen => .cells (Lib.deBruijn32tab.map fun x : Nat => Value.int .u8 (x : Int)).toArray t frozen
      | o => o).modify 1 fun
      | .cells _ t frozen => .cells (Lib.pow10Tab.map fun x : Int => Value.int .u64 x).toArray t frozen
      | o => o }
end Go.Proofs.YtlkopllpadhnlaaDoor
