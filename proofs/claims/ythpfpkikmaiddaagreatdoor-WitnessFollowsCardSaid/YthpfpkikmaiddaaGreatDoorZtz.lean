/- - -/
import Derived.Deep.DeepHandedRow
import Derived.Lib.LaidTab
import Derived.ChangeMaps5
import Derived.SizedLaws
import Derived.LaidSub
import Derived.Stop.LaidErr
import Derived.Shelf.Vars
import Derived.Lib.TrailingZeros
import Derived.Deep.DeepWitnessRowRef
import Derived.Test.YthpfpkikmaiddaaGreatDoorCards
import Derived.Test.YthpfpkikmaiddaaGreatDoorTie
import Derived.Test.YthpfpkikmaiddaaGreatDoorZnb
set_option linter.all false
namespace Go.Proofs.YthpfpkikmaiddaaGreatDoor
open Go Go.ChangeShapes Go.WideShapes Go.ChangeAt Go.RowKit Go.ChangeMaps
theorem own:ownKnob Tryz.prog.godebug=none:=by kernel_rfl
theorem laidOut:laidOutB Tryz.prog=true:=by kernel_rfl
theorem gTab : Tryz.prog.globalNamed "ostler/sha.roundWords" = some 3 := by kernel_rfl
theorem gTabType:(Tryz.prog.globals[3]?).map (·.type)=some 242:=by kernel_rfl
theorem cellsTab:Tryz.prog.cellsOf 242=64:=by kernel_rfl
theorem cellsWord:Tryz.prog.cellsOf 134=1:=by kernel_rfl
theorem table {W : World} (h : laidMetH Tryz.prog [("ostler/sha.roundWords", Rows.laid_ostler_sha_roundWords)] W) : Lib.TabIs Tryz.prog W "ostler/sha.roundWords" .u32 (k64.map U) :=
 Lib.tabIs_of_head (rest:=[]) gTab gTabType Tryz.underlying242 Tryz.underlying134 cellsWord cellsTab h
theorem kis {W : World} (h : laidMetH Tryz.prog [("ostler/sha.roundWords", Rows.laid_ostler_sha_roundWords)] W) : KIs W := fun i hi => by
 have h1:=(table h).cell gTab i (by simpa [k64] using hi)
 have hl:i<k64.length:=hi
 simpa [List.getD,hl] using h1
end Go.Proofs.YthpfpkikmaiddaaGreatDoor
namespace Go.Proofs.YthpfpkikmaiddaaGreatDoor.Nt
open Go Go.ChangeShapes Go.WideShapes Go.ChangeAt Go.RowKit Go.ChangeMaps
abbrev sx : List (String × DataW Unit) := [("math/bits.deBruijn32tab", Rows.laid_math_bits_deBruijn32tab), ("math/bits.deBruijn64tab", Rows.laid_math_bits_deBruijn64tab), ("internal/strconv.uint64pow10", Rows.laid_internal_strconv_uint64pow10), ("ostler/sha.roundWords", Rows.laid_ostler_sha_roundWords), ("unicode/utf8.acceptRanges", Rows.laid_unicode_utf8_acceptRanges), ("strconv.ErrRange", Rows.laid_strconv_ErrRange), ("strconv.ErrSyntax", Rows.laid_strconv_ErrSyntax), ("unicode/utf8.first", Rows.laid_unicode_utf8_first)]
theorem met_tens {W : World} (h : laidMetH Tryz.prog sx W) : laidMetH Tryz.prog [("internal/strconv.uint64pow10", Rows.laid_internal_strconv_uint64pow10)] W := h.filter fun x => x.1 == "internal/strconv.uint64pow10"
theorem met_range {W : World} (h : laidMetH Tryz.prog sx W) : laidMet Tryz.prog [("strconv.ErrRange", Rows.laid_strconv_ErrRange)] W := h.filter fun x => x.1 == "strconv.ErrRange"
theorem met_syntax {W : World} (h : laidMetH Tryz.prog sx W) : laidMet Tryz.prog [("strconv.ErrSyntax", Rows.laid_strconv_ErrSyntax)] W := h.filter fun x => x.1 == "strconv.ErrSyntax"
theorem gP10 : Tryz.prog.globalNamed "internal/strconv.uint64pow10" = some 4 := by kernel_rfl
theorem gP10Type:(Tryz.prog.globals[4]?).map (·.type)=some 340:=by kernel_rfl
theorem cellsP10:Tryz.prog.cellsOf 340=20:=by kernel_rfl
theorem cellsU64:Tryz.prog.cellsOf 186=1:=by kernel_rfl
theorem gER : Tryz.prog.globalNamed "strconv.ErrRange" = some 2 := by kernel_rfl
theorem gES : Tryz.prog.globalNamed "strconv.ErrSyntax" = some 1 := by kernel_rfl
theorem gERType:(Tryz.prog.globals[2]?).map (·.type)=some 191:=by kernel_rfl
theorem gESType:(Tryz.prog.globals[1]?).map (·.type)=some 191:=by kernel_rfl
theorem starES : "*" ++ "errors.errorString" = "*errors.errorString" := by decide
theorem rowES (u : TypeId) (h : Tryz.prog.typeName? 3 u = some "*errors.errorString") : u = 346 :=
 typeName_ptr_named (nm := "errors.errorString") (by rw [starES]; kernel_rfl) (by kernel_rfl) (by decide) u (by rw [starES]; exact h)
theorem cellsES:Tryz.prog.cellsOf 348=1:=by kernel_rfl
theorem cellsStr:Tryz.prog.cellsOf 9=1:=by kernel_rfl
theorem table10 {W : World} (h : laidMetH Tryz.prog [("internal/strconv.uint64pow10", Rows.laid_internal_strconv_uint64pow10)] W) : Lib.TabIs Tryz.prog W "internal/strconv.uint64pow10" .u64 Lib.pow10Tab :=
 Lib.tabIs_of_head (rest:=[]) gP10 gP10Type Tryz.underlying340 Tryz.underlying186 cellsU64 cellsP10 h
theorem nlV {W:World} (h:laidMetH Tryz.prog sx W) (hsh:W.ShapedOpen Tryz.prog):NL W.heap.size W:=by
 have h3:=table10 (met_tens h)
 have hc:=h3.cell gP10 0 (by rw [Lib.pow10Tab_length]; decide)
 obtain ⟨a0,s0,hv0,-,-,-⟩:=laid_sentinel (met_range h) gER gERType Tryz.underlying191 rowES Tryz.underlying346 Tryz.underlying348 rfl rfl Tryz.underlying9 cellsES cellsStr
 obtain ⟨a1,s1,hv1,-,-,-⟩:=laid_sentinel (met_syntax h) gES gESType Tryz.underlying191 rowES Tryz.underlying346 Tryz.underlying348 rfl rfl Tryz.underlying9 cellsES cellsStr
 have h0:=World.var?_cell gER hv0 0
 have h1:=World.var?_cell gES hv1 0
 simp at h0 h1
 obtain ⟨m,hm⟩:∃ m,W.cell? ⟨0,0,none⟩=some (.int .i64 m):=
  cell_of_shapedOpen_int (t:=3) (zero:=#[.int .i64 0]) hsh (of_decide_eq_true (by kernel_rfl)) (by kernel_rfl) rfl (by kernel_rfl) (by kernel_rfl) Tryz.underlying3
 refine ⟨fun w' hb=>?_,⟨_,_,h1⟩,⟨_,_,h0⟩,⟨m,hm⟩,block_lt_of_cell h1,block_lt_of_cell h0,block_lt_of_cell hm⟩
 unfold Lib.TabIs World.var? at *
 rw [gP10] at h3 ⊢
 simp only [Option.bind_some] at h3 ⊢
 rw [hb.block _ (block_lt_of_cell hc)]
 exact h3
noncomputable def low:Nat:=(World.holding Tryz.prog default ⟨#[],#[],[]⟩).heap.size
noncomputable def setT (cs:List Value):Obj->Obj
 | .cells _ t frozen=>.cells cs.toArray t frozen
 | o=>o
def acR:List Nat:=[128,191,160,191,128,159,144,191,128,143,0,0,0,0,0,0,0,0,0,0,0,0,0,0,0,0,0,0,0,0,0,0]
noncomputable def heap8 (os:Os):Array Obj:=
 ((((((World.holding Tryz.prog os ⟨#[],#[],[]⟩).heap.push (.cells #[.string ⟨#[118,97,108,117,101,32,111,117,116,32,111,102,32,114,97,110,103,101]⟩] 348)).push (.cells #[.string ⟨#[105,110,118,97,108,105,100,32,115,121,110,116,97,120]⟩] 348)).modify 8
  (setT (Lib.deBruijn64tab.map fun x:Nat=>Value.int .u8 (x:Int)))).modify 7 (setT (Lib.deBruijn32tab.map fun x:Nat=>Value.int .u8 (x:Int)))).modify 4 (setT (Lib.pow10Tab.map fun x:Int=>Value.int .u64 x))).modify 5 (setT (Pinned.utf8FirstZ.map fun x:Nat=>Value.int .u8 (x:Int)))
noncomputable def laidWorld8 (os:Os):World:=
 { World.holding Tryz.prog os ⟨#[],#[],[]⟩ with heap:=(((((heap8 os).modify 3 (setT (k64.map fun x=>Value.int .u32 (U x)))).modify 6 (setT (acR.map fun x:Nat=>Value.int .u8 (x:Int))))).modify 2 (setT [.iface 346 (.pointer (some ⟨low,0,none⟩))])).modify 1 (setT [.iface 346 (.pointer (some ⟨low+1,0,none⟩))]) }
theorem kisV {W : World} (h : laidMetH Tryz.prog sx W) : KIs W := kis (h.filter fun x => x.1 == "ostler/sha.roundWords")
end Go.Proofs.YthpfpkikmaiddaaGreatDoor.Nt
