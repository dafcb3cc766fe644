/- (written by mktopc.py) What TopRejects' list of eight variables gives: the powers of ten, strconv's sentinels; a world for the witnesses, in which all seven stand. -/
import Derived.LaidSub
import Derived.Stop.LaidErr
import Derived.Shelf.Vars
import Derived.Lib.TrailingZeros
import Derived.Deep.DeepWitnessRowRef
import Derived.Test.YthkfefkcjcgfkaaGreatDoorWtz
import Derived.Test.YthkfefkcjcgfkaaGreatDoorWtw
set_option linter.all false
namespace Go.Proofs.YthkfefkcjcgfkaaGreatDoor.Nt
open Go Go.ChangeShapes Go.WideShapes Go.ChangeAt Go.RowKit Go.ChangeMaps

abbrev sx : List (String × DataW Unit) := [("math/bits.deBruijn32tab", Rows.laid_math_bits_deBruijn32tab), ("math/bits.deBruijn64tab", Rows.laid_math_bits_deBruijn64tab), ("internal/strconv.uint64pow10", Rows.laid_internal_strconv_uint64pow10), ("ostler/sha.roundWords", Rows.laid_ostler_sha_roundWords), ("unicode/utf8.acceptRanges", Rows.laid_unicode_utf8_acceptRanges), ("strconv.ErrRange", Rows.laid_strconv_ErrRange), ("strconv.ErrSyntax", Rows.laid_strconv_ErrSyntax), ("unicode/utf8.first", Rows.laid_unicode_utf8_first)]
theorem met_tens {W : World} (h : laidMetH Tryz.prog sx W) : laidMetH Tryz.prog [("internal/strconv.uint64pow10", Rows.laid_internal_strconv_uint64pow10)] W := h.filter fun x => x.1 == "internal/strconv.uint64pow10"
theorem met_range {W : World} (h : laidMetH Tryz.prog sx W) : laidMet Tryz.prog [("strconv.ErrRange", Rows.laid_strconv_ErrRange)] W := h.filter fun x => x.1 == "strconv.ErrRange"
theorem met_syntax {W : World} (h : laidMetH Tryz.prog sx W) : laidMet Tryz.prog [("strconv.ErrSyntax", Rows.laid_strconv_ErrSyntax)] W := h.filter fun x => x.1 == "strconv.ErrSyntax"
theorem gP10 : Tryz.prog.globalNamed "internal/strconv.uint64pow10" = some 3 := by kernel_rfl
theorem gP10Type : (Tryz.prog.globals[3]?).map (·.type) = some 163 := by kernel_rfl
theorem cellsP10 : Tryz.prog.cellsOf 163 = 20 := by kernel_rfl
theorem cellsU64 : Tryz.prog.cellsOf 130 = 1 := by kernel_rfl
theorem gER : Tryz.prog.globalNamed "strconv.ErrRange" = some 2 := by kernel_rfl
theorem gES : Tryz.prog.globalNamed "strconv.ErrSyntax" = some 1 := by kernel_rfl
theorem gERType : (Tryz.prog.globals[2]?).map (·.type) = some 67 := by kernel_rfl
theorem gESType : (Tryz.prog.globals[1]?).map (·.type) = some 67 := by kernel_rfl
theorem starES : "*" ++ "errors.errorString" = "*errors.errorString" := by decide
theorem rowES (u : TypeId) (h : Tryz.prog.typeName? 3 u = some "*errors.errorString") : u = 176 :=
  typeName_ptr_named (nm := "errors.errorString") (by rw [starES]; kernel_rfl) (by kernel_rfl) (by decide) u (by rw [starES]; exact h)
theorem cellsES : Tryz.prog.cellsOf 178 = 1 := by kernel_rfl
theorem cellsStr : Tryz.prog.cellsOf 9 = 1 := by kernel_rfl
theorem table10 {W : World} (h : laidMetH Tryz.prog [("internal/strconv.uint64pow10", Rows.laid_internal_strconv_uint64pow10)] W) : Lib.TabIs Tryz.prog W "internal/strconv.uint64pow10" .u64 Lib.pow10Tab :=
  Lib.tabIs_of_head (rest := []) gP10 gP10Type Tryz.underlying163 Tryz.underlying130 cellsU64 cellsP10 h
theorem nlV {W : World} (h : laidMetH Tryz.prog sx W) (hsh : W.ShapedOpen Tryz.prog) : NL W.heap.size W := by
  have h3 := table10 (met_tens h)
  have hc := h3.cell gP10 0 (by rw [Lib.pow10Tab_length]; decide)
  obtain ⟨a0, s0, hv0, -, -, -⟩ := laid_sentinel (met_range h) gER gERType Tryz.underlying67 rowES Tryz.underlying176 Tryz.underlying178 rfl rfl Tryz.underlying9 cellsES cellsStr
  obtain ⟨a1, s1, hv1, -, -, -⟩ := laid_sentinel (met_syntax h) gES gESType Tryz.underlying67 rowES Tryz.underlying176 Tryz.underlying178 rfl rfl Tryz.underlying9 cellsES cellsStr
  have h0 := World.var?_cell gER hv0 0
  have h1 := World.var?_cell gES hv1 0
  simp at h0 h1
  obtain ⟨m, hm⟩ : ∃ m, W.cell? ⟨0, 0, none⟩ = some (.int .i64 m) :=
    cell_of_shapedOpen_int (t := 3) (zero := #[.int .i64 0]) hsh (of_decide_eq_true (by kernel_rfl)) (by kernel_rfl) rfl (by kernel_rfl) (by kernel_rfl) Tryz.underlying3
  refine ⟨fun w' hb => ?_, ⟨_, _, h1⟩, ⟨_, _, h0⟩, ⟨m, hm⟩, block_lt_of_cell h1, block_lt_of_cell h0, block_lt_of_cell hm⟩
  unfold Lib.TabIs World.var? at *
  rw [gP10] at h3 ⊢
  simp only [Option.bind_some] at h3 ⊢
  rw [hb.block _ (block_lt_of_cell hc)]
  exact h3
/-- So many blocks has the settled world. -/
noncomputable def low : Nat := (World.holding Tryz.prog default ⟨#[], #[], []⟩).heap.size
/-- A table's cells set. -/
noncomputable def setT (cs : List Value) : Obj → Obj
  | .cells _ t frozen => .cells cs.toArray t frozen
  | o => o
def acR : List Nat := [128, 191, 160, 191, 128, 159, 144, 191, 128, 143, 0, 0, 0, 0, 0, 0, 0, 0, 0, 0, 0, 0, 0, 0, 0, 0, 0, 0, 0, 0, 0, 0]
/-- Two blocks more, each an errors.errorString; the tables laid; the sentinels point to the two blocks. -/
noncomputable def heap8 (os : Os) : Array Obj :=
  ((((((World.holding Tryz.prog os ⟨#[], #[], []⟩).heap.push (.cells #[.string ⟨#[118, 97, 108, 117, 101, 32, 111, 117, 116, 32, 111, 102, 32, 114, 97, 110, 103, 101]⟩] 178)).push (.cells #[.string ⟨#[105, 110, 118, 97, 108, 105, 100, 32, 115, 121, 110, 116, 97, 120]⟩] 178)).modify 7
    (setT (Lib.deBruijn64tab.map fun x : Nat => Value.int .u8 (x : Int)))).modify 6 (setT (Lib.deBruijn32tab.map fun x : Nat => Value.int .u8 (x : Int)))).modify 3 (setT (Lib.pow10Tab.map fun x : Int => Value.int .u64 x))).modify 4 (setT (Pinned.utf8FirstZ.map fun x : Nat => Value.int .u8 (x : Int)))
noncomputable def laidWorld8 (os : Os) : World :=
  { World.holding Tryz.prog os ⟨#[], #[], []⟩ with heap := (((((heap8 os).modify 8 (setT (k64.map fun x => Value.int .u32 (U x)))).modify 5 (setT (acR.map fun x : Nat => Value.int .u8 (x : Int))))).modify 2 (setT [.iface 176 (.pointer (some ⟨low, 0, none⟩))])).modify 1 (setT [.iface 176 (.pointer (some ⟨low + 1, 0, none⟩))]) }
theorem kisV {W : World} (h : laidMetH Tryz.prog sx W) : KIs W := kis (h.filter fun x => x.1 == "ostler/sha.roundWords")
theorem gT64 : Tryz.prog.globalNamed "math/bits.deBruijn64tab" = some 7 := by kernel_rfl
theorem gT64Type : (Tryz.prog.globals[7]?).map (·.type) = some 167 := by kernel_rfl
theorem cellsT64 : Tryz.prog.cellsOf 167 = 64 := by kernel_rfl
theorem cellsByte : Tryz.prog.cellsOf 5 = 1 := by kernel_rfl
theorem table64 {W : World} (h : laidMetH Tryz.prog [("math/bits.deBruijn64tab", Rows.laid_math_bits_deBruijn64tab)] W) : Lib.TabIs Tryz.prog W "math/bits.deBruijn64tab" .u8 (Lib.deBruijn64tab.map fun x : Nat => (x : Int)) :=
  Lib.tabIs_of_head (rest := []) gT64 gT64Type Tryz.underlying167 Tryz.underlying5 cellsByte cellsT64 h
theorem tisV {W : World} (h : laidMetH Tryz.prog sx W) : Ti.TIs W := fun i hi => by
  have h1 := (table64 (h.filter fun x => x.1 == "math/bits.deBruijn64tab")).cell gT64 i (by simpa using hi)
  have hl : i < Lib.deBruijn64tab.length := hi
  simpa [List.getD, hl] using h1
theorem ldV {W : World} (h : laidMetH Tryz.prog sx W) (hn : NL W.heap.size W) : Ti.Ld W.heap.size W := by
  have h1 := kisV h
  have h2 := tisV h
  obtain ⟨p, -, -, -, -, -, -⟩ := hn
  exact ⟨h1, h2, p, h1.lt, h2.lt⟩
theorem erV {W : World} (hn : NL W.heap.size W) : Ti.ErV W.heap.size W := by
  obtain ⟨-, s, r, m, ls, lr, lm⟩ := hn
  exact ⟨s, r, m, ls, lr, lm⟩
end Go.Proofs.YthkfefkcjcgfkaaGreatDoor.Nt
