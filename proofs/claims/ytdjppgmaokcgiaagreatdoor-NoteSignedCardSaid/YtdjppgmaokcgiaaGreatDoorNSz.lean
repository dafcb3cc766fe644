/- The last step of a law's row: a call that returned true and changed nothing that was there. No program is named. | What the rows' list gives: the words k stand in the program's table; and a world for the witnesses, in which they do. | (written by mknz.py) What NoteSigned's list of eight variables gives: the powers of ten, strconv's sentinels; a world for the witnesses, in which all seven stand. -/
import Derived.WalkKit
import Derived.ProofKit
import Derived.OpenShut
import Derived.Carry
import Derived.Deep.DeepHandedRow
import Derived.Lib.LaidTab
import Derived.ChangeMaps5
import Derived.SizedLaws
import Derived.LaidSub
import Derived.Stop.LaidErr
import Derived.Shelf.Vars
import Derived.Lib.TrailingZeros
import Derived.Deep.DeepWitnessRowRef
import Derived.Test.YtdjppgmaokcgiaaGreatDoorCards
import Derived.Test.YtdjppgmaokcgiaaGreatDoorTie
import Derived.Test.YtdjppgmaokcgiaaGreatDoorShaC
import Derived.Test.YtdjppgmaokcgiaaGreatDoorNSa
namespace Go.Proofs.YtdjppgmaokcgiaaGreatDoor
open Go Go.RowKit Go.ChangeShapes Go.WideShapes

section
variable {H : Type} {enc : TypeId × Value → H} {P : Program}
/-- Arguments that were read read the same behind a call that changed nothing that was there. -/
theorem all_below (hl : laidOutB P = true) {W W' : World} (hb : Below W.heap.size W W') (sp : Nat → Bool) : ∀ {ts : List TypeId} {vs : List Value} {ds : List (DataW H)} {ps : List MemPlace},
    (∀ t ∈ ts, P.readableRec t = true ∧ t < P.types.size) → DataW.TrodAll enc P W 0 (fun _ => true) true ts vs ds ps → (∀ p ∈ ps, p.block < W.heap.size) → (∀ p ∈ ps, sp p.block = true) →
    DataW.TrodAll enc P W' 0 sp true ts vs ds ps
  | [], vs, ds, ps, _, h, _, _ => by
    obtain ⟨rfl, rfl, rfl⟩ := trodAll_nil h
    rfl
  | t :: ts, vs, ds, ps, ht, h, hlt, hsp => by
    obtain ⟨v, vs', d, ds', p, q, rfl, rfl, rfl, h0, hr⟩ := trodAll_cons h
    have h1 := ht t (by simp)
    refine trodAll_cons_mk (WideElems.Trod_stays hl h1.1 h1.2 h0 (fun x hx => hb.same (hlt x (by simp [hx]))) (fun x hx => hsp x (by simp [hx]))) ?_
    exact all_below hl hb sp (fun t' h' => ht t' (by simp [h'])) hr (fun x hx => hlt x (by simp [hx])) (fun x hx => hsp x (by simp [hx]))

theorem law_post {f : Func} {s : ChangeSpec} {apart fresh handsOn again : Bool} {W W' : World} {args : Array Value} {ds gs : List (DataW H)} {before : List MemPlace} {tb : TypeId}
    (hl : laidOutB P = true) (hts : ∀ t ∈ f.params.toList, P.readableRec t = true ∧ t < P.types.size) (hv : s.vars = [])
    (hW : DataW.Whole enc P f.params.toList s.vars apart W args.toList ds gs before)
    (hfn : s.fn H (ds ++ gs) = { results := [.lit (.bool true)], args := ds, vars := [] })
    (hres : f.resultTypes = #[tb]) (hu : P.underlying tb = some .bool) (hb : Below W.heap.size W W') :
    s.post enc P f apart fresh handsOn again W args (.bool true) W' := by
  have hlt : ∀ p ∈ before, p.block < W.heap.size := fun p hp => hW.lt p hp
  have hW0 := hW
  obtain ⟨p, q, hA, hV, rfl, hz, hn⟩ := hW
  rw [hv] at hV
  obtain ⟨rfl, rfl⟩ := trodVars_none hV
  simp only [List.append_nil] at *
  have hold : ∀ x ∈ p, (fun b => decide (b < W.heap.size)) x.block = true := fun x hx => by simpa using hlt x hx
  have hR : ∀ (b : Nat) (sp : Nat → Bool) (hd : Bool), DataW.TrodAll enc P W' b sp hd f.resultTypes.toList ((Value.bool true).resultList f.resultTypes.size) [.lit (.bool true)] [] := fun b sp hd => by
    rw [hres]; exact trodAll_cons_mk (shut_bool hu _) trodAll_mk0
  refine ⟨ds, [], p, [], p, [], by simpa using hW0, ?_, ?_, ?_, World.keptBut_mono (fun x hx => ⟨hx, Or.inr (Or.inl hx)⟩) (hb.frame (· ∈ p)), fun _ => ?_⟩
  · rw [List.append_nil, hfn]; exact hR _ _ _
  · rw [List.append_nil, hfn]; exact all_below hl hb _ hts hA hlt hold
  · rw [List.append_nil, hfn, hv]; rfl
  · refine ⟨ok_one hres rfl (okWide_bool_mk hu _), [.lit (.bool true)] ++ ds, [], p, ⟨p, [], ?_, ?_, by simp, ?_, hn⟩, fun x hx _ => hx⟩
    · have h1 := hR 0 (fun _ => true) true
      have h2 := all_below hl hb (fun _ => true) hts hA hlt (fun _ _ => rfl)
      rw [hres]
      exact ⟨[], p, shut_bool hu _, h2, rfl⟩
    · rw [hv]; rfl
    · intro b off hp
      rw [hb.frozen (p := ⟨b, off, none⟩) (hlt _ hp)]
      exact hz b off hp
end
end Go.Proofs.YtdjppgmaokcgiaaGreatDoor

namespace Go.Proofs.YtdjppgmaokcgiaaGreatDoor
open Go Go.ChangeShapes Go.WideShapes Go.ChangeAt Go.RowKit Go.ChangeMaps

theorem own : ownKnob Tryz.prog.godebug = none := by kernel_rfl
theorem laidOut : laidOutB Tryz.prog = true := by kernel_rfl
theorem gTab : Tryz.prog.globalNamed "ostler/sha.roundWords" = some 8 := by kernel_rfl
theorem gTabType : (Tryz.prog.globals[8]?).map (·.type) = some 95 := by kernel_rfl
theorem cellsTab : Tryz.prog.cellsOf 95 = 64 := by kernel_rfl
theorem cellsWord : Tryz.prog.cellsOf 93 = 1 := by kernel_rfl
theorem table {W : World} (h : laidMetH Tryz.prog [("ostler/sha.roundWords", Rows.laid_ostler_sha_roundWords)] W) : Lib.TabIs Tryz.prog W "ostler/sha.roundWords" .u32 (k64.map U) :=
  Lib.tabIs_of_head (rest := []) gTab gTabType Tryz.underlying95 Tryz.underlying93 cellsWord cellsTab h
theorem kis {W : World} (h : laidMetH Tryz.prog [("ostler/sha.roundWords", Rows.laid_ostler_sha_roundWords)] W) : KIs W := fun i hi => by
  have h1 := (table h).cell gTab i (by simpa [k64] using hi)
  have hl : i < k64.length := hi
  simpa [List.getD, hl] using h1

/-- A world for the witnesses: the settled one, the table holding what its initialiser lays. -/
noncomputable def laidWorld (os : Os) : World :=
  { World.holding Tryz.prog os ⟨#[], #[], []⟩ with heap := (World.holding Tryz.prog os ⟨#[], #[], []⟩).heap.modify 8 fun
      | .cells _ t frozen => .cells (k64.map fun x => Value.int .u32 (U x)).toArray t frozen
      | o => o }
end Go.Proofs.YtdjppgmaokcgiaaGreatDoor

namespace Go.Proofs.YtdjppgmaokcgiaaGreatDoor.Nt
open Go Go.ChangeShapes Go.WideShapes Go.ChangeAt Go.RowKit Go.ChangeMaps

abbrev sx : List (String × DataW Unit) := [("math/bits.deBruijn32tab", Rows.laid_math_bits_deBruijn32tab), ("math/bits.deBruijn64tab", Rows.laid_math_bits_deBruijn64tab), ("internal/strconv.uint64pow10", Rows.laid_internal_strconv_uint64pow10), ("ostler/sha.roundWords", Rows.laid_ostler_sha_roundWords), ("unicode/utf8.acceptRanges", Rows.laid_unicode_utf8_acceptRanges), ("strconv.ErrRange", Rows.laid_strconv_ErrRange), ("strconv.ErrSyntax", Rows.laid_strconv_ErrSyntax), ("unicode/utf8.first", Rows.laid_unicode_utf8_first)]
theorem met_tens {W : World} (h : laidMetH Tryz.prog sx W) : laidMetH Tryz.prog [("internal/strconv.uint64pow10", Rows.laid_internal_strconv_uint64pow10)] W := h.filter fun x => x.1 == "internal/strconv.uint64pow10"
theorem met_range {W : World} (h : laidMetH Tryz.prog sx W) : laidMet Tryz.prog [("strconv.ErrRange", Rows.laid_strconv_ErrRange)] W := h.filter fun x => x.1 == "strconv.ErrRange"
theorem met_syntax {W : World} (h : laidMetH Tryz.prog sx W) : laidMet Tryz.prog [("strconv.ErrSyntax", Rows.laid_strconv_ErrSyntax)] W := h.filter fun x => x.1 == "strconv.ErrSyntax"
theorem gP10 : Tryz.prog.globalNamed "internal/strconv.uint64pow10" = some 1 := by kernel_rfl
theorem gP10Type : (Tryz.prog.globals[1]?).map (·.type) = some 134 := by kernel_rfl
theorem cellsP10 : Tryz.prog.cellsOf 134 = 20 := by kernel_rfl
theorem cellsU64 : Tryz.prog.cellsOf 58 = 1 := by kernel_rfl
theorem gER : Tryz.prog.globalNamed "strconv.ErrRange" = some 3 := by kernel_rfl
theorem gES : Tryz.prog.globalNamed "strconv.ErrSyntax" = some 2 := by kernel_rfl
theorem gERType : (Tryz.prog.globals[3]?).map (·.type) = some 71 := by kernel_rfl
theorem gESType : (Tryz.prog.globals[2]?).map (·.type) = some 71 := by kernel_rfl
theorem starES : "*" ++ "errors.errorString" = "*errors.errorString" := by decide
theorem rowES (u : TypeId) (h : Tryz.prog.typeName? 3 u = some "*errors.errorString") : u = 162 :=
  typeName_ptr_named (nm := "errors.errorString") (by rw [starES]; kernel_rfl) (by kernel_rfl) (by decide) u (by rw [starES]; exact h)
theorem cellsES : Tryz.prog.cellsOf 164 = 1 := by kernel_rfl
theorem cellsStr : Tryz.prog.cellsOf 9 = 1 := by kernel_rfl
theorem table10 {W : World} (h : laidMetH Tryz.prog [("internal/strconv.uint64pow10", Rows.laid_internal_strconv_uint64pow10)] W) : Lib.TabIs Tryz.prog W "internal/strconv.uint64pow10" .u64 Lib.pow10Tab :=
  Lib.tabIs_of_head (rest := []) gP10 gP10Type Tryz.underlying134 Tryz.underlying58 cellsU64 cellsP10 h
theorem nlV {W : World} (h : laidMetH Tryz.prog sx W) (hsh : W.ShapedOpen Tryz.prog) : NL W.heap.size W := by
  have h3 := table10 (met_tens h)
  have hc := h3.cell gP10 0 (by rw [Lib.pow10Tab_length]; decide)
  obtain ⟨a0, s0, hv0, -, -, -⟩ := laid_sentinel (met_range h) gER gERType Tryz.underlying71 rowES Tryz.underlying162 Tryz.underlying164 rfl rfl Tryz.underlying9 cellsES cellsStr
  obtain ⟨a1, s1, hv1, -, -, -⟩ := laid_sentinel (met_syntax h) gES gESType Tryz.underlying71 rowES Tryz.underlying162 Tryz.underlying164 rfl rfl Tryz.underlying9 cellsES cellsStr
  have h0 := World.var?_cell gER hv0 0
  have h1 := World.var?_cell gES hv1 0
  simp at h0 h1
  obtain ⟨m, hm⟩ : ∃ m, W.cell? ⟨0, 0, none⟩ = some (.int .i64 m) :=
    cell_of_shapedOpen_int (t := 3) (zero := #[.int .i64 0]) hsh (of_decide_eq_true (by kernel_rfl)) (by kernel_rfl) rfl (by kernel_rfl) (by kernel_rfl) Tryz.underlying3
  refine ⟨fun w' hb => ?_, ⟨_, _, h1⟩, ⟨_, _, h0⟩, ⟨m, hm⟩, block_lt_of_cell h1, block_lt_of_cell h0, block_lt_of_cell hm⟩
  unfold Lib.TabIs World.var? at *
  rw [gP10] at h3 ⊢
  simp only [Option.bind_some] at h3 ⊢
  rw [hb.block _ (block_lt_of_cell hc)]
  exact h3
/-- So many blocks has the settled world. -/
noncomputable def low : Nat := (World.holding Tryz.prog default ⟨#[], #[], []⟩).heap.size
/-- A table's cells set. -/
noncomputable def setT (cs : List Value) : Obj → Obj
  | .cells _ t frozen => .cells cs.toArray t frozen
  | o => o
def acR : List Nat := [128, 191, 160, 191, 128, 159, 144, 191, 128, 143, 0, 0, 0, 0, 0, 0, 0, 0, 0, 0, 0, 0, 0, 0, 0, 0, 0, 0, 0, 0, 0, 0]
/-- Two blocks more, each an errors.errorString; the tables laid; the sentinels point to the two blocks. -/
noncomputable def heap8 (os : Os) : Array Obj :=
  ((((((World.holding Tryz.prog os ⟨#[], #[], []⟩).heap.push (.cells #[.string ⟨#[118, 97, 108, 117, 101, 32, 111, 117, 116, 32, 111, 102, 32, 114, 97, 110, 103, 101]⟩] 164)).push (.cells #[.string ⟨#[105, 110, 118, 97, 108, 105, 100, 32, 115, 121, 110, 116, 97, 120]⟩] 164)).modify 7
    (setT (Lib.deBruijn64tab.map fun x : Nat => Value.int .u8 (x : Int)))).modify 6 (setT (Lib.deBruijn32tab.map fun x : Nat => Value.int .u8 (x : Int)))).modify 1 (setT (Lib.pow10Tab.map fun x : Int => Value.int .u64 x))).modify 4 (setT (Pinned.utf8FirstZ.map fun x : Nat => Value.int .u8 (x : Int)))
noncomputable def laidWorld8 (os : Os) : World :=
  { World.holding Tryz.prog os ⟨#[], #[], []⟩ with heap := (((((heap8 os).modify 8 (setT (k64.map fun x => Value.int .u32 (U x)))).modify 5 (setT (acR.map fun x : Nat => Value.int .u8 (x : Int))))).modify 3 (setT [.iface 162 (.pointer (some ⟨low, 0, none⟩))])).modify 2 (setT [.iface 162 (.pointer (some ⟨low + 1, 0, none⟩))]) }
theorem kisV {W : World} (h : laidMetH Tryz.prog sx W) : KIs W := kis (h.filter fun x => x.1 == "ostler/sha.roundWords")
/-! ### NoteSigned's arguments -/
set_option maxRecDepth 100000 in
theorem ck_sized {H : Type} {enc : TypeId × Value → H} {W : World} {base : Nat} {v : Value} {d : DataW H} {p : List MemPlace} {ts : List TypeId} {ds : List (DataW H)} {j : Nat}
    (hv : Value.okWide Tryz.prog W .any base 23 v) (h : DataW.Trod enc Tryz.prog W 0 (fun _ => true) true 23 v d p)
    (hz : (DataW.weightsEach Tryz.prog ts ds).all (· ≤ reachBytes) = true) (ht : ts[j]? = some 23) (hd : ds[j]? = some d) :
    ∃ c : Ck, v = ckV c ∧ c.o.size ≤ 140737488351232 ∧ c.r.size ≤ 140737488351232 := by
  obtain ⟨cs, rfl, hcs⟩ := okWide_struct Tryz.underlying23 hv
  obtain ⟨fuel, hf⟩ := h
  obtain ⟨xs, m, _, hx, hl, hn, hF⟩ := DataW.trod_struct Tryz.underlying23 hf
  rw [show Tryz.prog.cellsOf 23 = 3 by kernel_rfl] at hl
  have hs : ∀ k, k ∈ d.weights Tryz.prog 23 → k ≤ 140737488351232 := fun k hk => by
    have h4 := List.all_eq_true.1 hz _ (DataW.weights_mem_each (P := Tryz.prog) ht hd k hk)
    have h5 : k ≤ reachBytes := by simpa using h4
    unfold reachBytes at h5
    omega
  have hc : ∃ c : Ck, (Value.agg cs).cells.toList = [.string c.o, .int .i64 c.n, .string c.r] ∧ c.o.size ≤ 140737488351232 ∧ c.r.size ≤ 140737488351232 := by
    generalize (Value.agg cs).cells.toList = ds at *
    match ds, hl, xs, hn with
    | [c0, c1, c2], _, [x0, x1, x2], _ =>
      have g0 : DataW.trod enc Tryz.prog W 0 (fun _ => true) true m 9 (([c0, c1, c2].drop 0).take (Tryz.prog.cellsOf 9)) = some x0 := hF 0 _ rfl
      have g1 : DataW.trod enc Tryz.prog W 0 (fun _ => true) true m 3 (([c0, c1, c2].drop 1).take (Tryz.prog.cellsOf 3)) = some x1 := hF 1 _ rfl
      have g2 : DataW.trod enc Tryz.prog W 0 (fun _ => true) true m 9 (([c0, c1, c2].drop 2).take (Tryz.prog.cellsOf 9)) = some x2 := hF 2 _ rfl
      have z3 : Tryz.prog.cellsOf 3 = 1 := by kernel_rfl
      have z9 : Tryz.prog.cellsOf 9 = 1 := by kernel_rfl
      rw [z9] at g0 g2
      rw [z3] at g1
      obtain ⟨a, e0, y0, w0⟩ := DataW.trod_string Tryz.underlying9 g0
      obtain ⟨b, e1, y1, w1⟩ := DataW.trod_int Tryz.underlying3 g1
      obtain ⟨c, e2, y2, w2⟩ := DataW.trod_string Tryz.underlying9 g2
      simp [List.take, List.drop] at e0 e1 e2
      subst e0 e1 e2
      have hd2 : d = .agg [x0.1, x1.1, x2.1] := congrArg Prod.fst hx
      have k0 : x0.1 = .lit (.string a.data.toList) := by rw [y0]
      have k2 : x2.1 = .lit (.string c.data.toList) := by rw [y2]
      have s0 := hs a.data.toList.length (by
        rw [hd2, k0]
        simp only [DataW.weights, Tryz.underlying23]
        exact DataW.weights_mem_each (P := Tryz.prog) (show ([9, 3, 9] : List TypeId)[0]? = some 9 from rfl) (show ([.lit (.string a.data.toList), x1.1, x2.1] : List (DataW H))[0]? = some (.lit (.string a.data.toList)) from rfl) _ (by simp [DataW.weights]))
      have s2 := hs c.data.toList.length (by
        rw [hd2, k2]
        simp only [DataW.weights, Tryz.underlying23]
        exact DataW.weights_mem_each (P := Tryz.prog) (show ([9, 3, 9] : List TypeId)[2]? = some 9 from rfl) (show ([x0.1, x1.1, .lit (.string c.data.toList)] : List (DataW H))[2]? = some (.lit (.string c.data.toList)) from rfl) _ (by simp [DataW.weights]))
      rw [data_len] at s0 s2
      exact ⟨⟨a, b, c⟩, rfl, s0, s2⟩
  obtain ⟨c, hc, h1, h2⟩ := hc
  refine ⟨c, ?_, h1, h2⟩
  unfold ckV
  congr 1
  apply Array.ext'
  simpa [Value.cells] using hc
set_option maxRecDepth 100000 in
theorem by_open {H : Type} {enc : TypeId × Value → H} {W : World} {base : Nat} {v : Value} {d : DataW H} {p : List MemPlace}
    (hv : Value.okWide Tryz.prog W .any base 24 v) (h : DataW.Trod enc Tryz.prog W 0 (fun _ => true) true 24 v d p) :
    ∃ (a : Option Addr) (L c : Nat) (bs : Nat → Nat), v = .slice a L c ∧ ByIn W a L bs ∧ L ≤ c ∧ c ≤ maxLen := by
  obtain ⟨a0, l0, c0, rfl⟩ := okWide_slice Tryz.underlying24 hv
  obtain ⟨fuel, hf⟩ := h
  rcases open_ints Tryz.underlying24 Tryz.underlying5 (by kernel_rfl) hf with ⟨hcs, hx⟩ | ⟨a, len, cap, zs, hcs, _, hl, hm, hzl, hx, hcell, hwf⟩
  · simp [Value.cells] at hcs
    obtain ⟨rfl, rfl, rfl⟩ := hcs
    exact ⟨none, 0, 0, fun _ => 0, rfl, ⟨fun h => absurd h (Nat.lt_irrefl 0)⟩, Nat.le_refl _, Nat.zero_le _⟩
  · simp [Value.cells] at hcs
    obtain ⟨rfl, rfl, rfl⟩ := hcs
    simp only [if_true] at hzl
    refine ⟨some a, l0, c0, fun i => (zs.getD i 0).toNat, rfl, ⟨fun h0 => ?_⟩, hl, hm⟩
    have hc0 := hcell 0 (by omega)
    obtain ⟨blk, off, spot⟩ := a
    have hspot : spot = none := by simpa [Addr.add] using World.cell?_spot hc0
    subst hspot
    refine ⟨blk, off, rfl, by simpa [Addr.add] using World.block_lt_of_cell? W _ hc0, fun i hi => ?_⟩
    have hci := hcell i (by omega)
    have hadd : (⟨blk, off, none⟩ : Addr).add i = ⟨blk, off + i, none⟩ := by
      unfold Addr.add
      split
      · next h => subst h; rfl
      · rfl
    rw [hadd] at hci
    have hil : i < zs.length := by omega
    have hw := hwf (zs.getD i 0) (by rw [List.getD, List.getElem?_eq_getElem hil]; exact List.getElem_mem hil)
    have h0 : IntKind.u8.min ≤ zs.getD i 0 ∧ zs.getD i 0 ≤ IntKind.u8.max := by simpa [Lit.wf] using hw
    have h1 : IntKind.u8.min = 0 := by decide
    have h2 : IntKind.u8.max = 255 := by decide
    refine ⟨by omega, ?_⟩
    rw [hci, show (((zs.getD i 0).toNat : Nat) : Int) = zs.getD i 0 by omega]
end Go.Proofs.YtdjppgmaokcgiaaGreatDoor.Nt
