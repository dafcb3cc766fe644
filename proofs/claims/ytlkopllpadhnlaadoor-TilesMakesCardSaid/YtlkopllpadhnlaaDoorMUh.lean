/- What the rows' list of four variables gives: the words k, the table of bits and the powers of ten stand in the program's memory; a world for the witnesses, in which they do. | The document's All: the tiles of a number. | TilesRoots: out of a list's tiles alone come its root and every proof; no other files are asked for. | A strings.Builder in memory: WriteString told with just what it changes. | slices.Chunk over a slice of texts. | The program's Make. | TilesMakes: the tiles of every number; the text of every tile of a list. | A tile that came in. -/
import Derived.LaidSub
import Derived.RangeFuncNested
import Derived.RangeFuncBound
import Derived.RangeFuncCalls
import Derived.RangeFuncLeaves
import Derived.RangeFuncBox
import Derived.Maps.AppendAt
import Derived.Shelf.Abstract
import Derived.Shelf.AbstractIn
import Derived.Shelf.RegionOpen
import Derived.OwnWalkIn
import Derived.TacticsInMore
import Derived.LoopNIn
import Derived.LoopIn
import Derived.Test.YtlkopllpadhnlaaDoorShaT
import Derived.Test.YtlkopllpadhnlaaDoorMUa
import Derived.Test.YtlkopllpadhnlaaDoorMUe
import Derived.Test.YtlkopllpadhnlaaDoorTiY
import Derived.Test.YtlkopllpadhnlaaDoorBld
namespace Go.Proofs.YtlkopllpadhnlaaDoor
open Go Go.ChangeShapes Go.WideShapes Go.ChangeAt Go.RowKit Go.ChangeMaps

theorem gT64 : Tryd.prog.globalNamed "math/bits.deBruijn64tab" = some 6 := by kernel_rfl
theorem gT64Type : (Tryd.prog.globals[6]?).map (·.type) = some 121 := by kernel_rfl
theorem cellsT64 : Tryd.prog.cellsOf 121 = 64 := by kernel_rfl
theorem cellsByte : Tryd.prog.cellsOf 5 = 1 := by kernel_rfl
theorem gP10 : Tryd.prog.globalNamed "internal/strconv.uint64pow10" = some 1 := by kernel_rfl
theorem gP10Type : (Tryd.prog.globals[1]?).map (·.type) = some 155 := by kernel_rfl
theorem cellsP10 : Tryd.prog.cellsOf 155 = 20 := by kernel_rfl
theorem cellsU64 : Tryd.prog.cellsOf 128 = 1 := by kernel_rfl
theorem met_words {W : World} (h : laidMetH Tryd.prog [("math/bits.deBruijn32tab", Rows.laid_math_bits_deBruijn32tab), ("math/bits.deBruijn64tab", Rows.laid_math_bits_deBruijn64tab), ("internal/strconv.uint64pow10", Rows.laid_internal_strconv_uint64pow10), ("ostler/sha.roundWords", Rows.laid_ostler_sha_roundWords)] W) :
    laidMetH Tryd.prog [("ostler/sha.roundWords", Rows.laid_ostler_sha_roundWords)] W := h.filter fun x => x.1 == "ostler/sha.roundWords"
theorem met_bits {W : World} (h : laidMetH Tryd.prog [("math/bits.deBruijn32tab", Rows.laid_math_bits_deBruijn32tab), ("math/bits.deBruijn64tab", Rows.laid_math_bits_deBruijn64tab), ("internal/strconv.uint64pow10", Rows.laid_internal_strconv_uint64pow10), ("ostler/sha.roundWords", Rows.laid_ostler_sha_roundWords)] W) :
    laidMetH Tryd.prog [("math/bits.deBruijn64tab", Rows.laid_math_bits_deBruijn64tab)] W := h.filter fun x => x.1 == "math/bits.deBruijn64tab"
theorem met_tens {W : World} (h : laidMetH Tryd.prog [("math/bits.deBruijn32tab", Rows.laid_math_bits_deBruijn32tab), ("math/bits.deBruijn64tab", Rows.laid_math_bits_deBruijn64tab), ("internal/strconv.uint64pow10", Rows.laid_internal_strconv_uint64pow10), ("ostler/sha.roundWords", Rows.laid_ostler_sha_roundWords)] W) :
    laidMetH Tryd.prog [("internal/strconv.uint64pow10", Rows.laid_internal_strconv_uint64pow10)] W := h.filter fun x => x.1 == "internal/strconv.uint64pow10"
theorem table64 {W : World} (h : laidMetH Tryd.prog [("math/bits.deBruijn64tab", Rows.laid_math_bits_deBruijn64tab)] W) : Lib.TabIs Tryd.prog W "math/bits.deBruijn64tab" .u8 (Lib.deBruijn64tab.map fun x : Nat => (x : Int)) :=
  Lib.tabIs_of_head (rest := []) gT64 gT64Type Tryd.underlying121 Tryd.underlying5 cellsByte cellsT64 h
theorem table10 {W : World} (h : laidMetH Tryd.prog [("internal/strconv.uint64pow10", Rows.laid_internal_strconv_uint64pow10)] W) : Lib.TabIs Tryd.prog W "internal/strconv.uint64pow10" .u64 Lib.pow10Tab :=
  Lib.tabIs_of_head (rest := []) gP10 gP10Type Tryd.underlying155 Tryd.underlying128 cellsU64 cellsP10 h
theorem tis4 {W : World} (h : laidMetH Tryd.prog [("math/bits.deBruijn64tab", Rows.laid_math_bits_deBruijn64tab)] W) : TIs W := fun i hi => by
  have h1 := (table64 h).cell gT64 i (by simpa using hi)
  have hl : i < Lib.deBruijn64tab.length := hi
  simpa [List.getD, hl] using h1
theorem ld4 {W : World} (h : laidMetH Tryd.prog [("math/bits.deBruijn32tab", Rows.laid_math_bits_deBruijn32tab), ("math/bits.deBruijn64tab", Rows.laid_math_bits_deBruijn64tab), ("internal/strconv.uint64pow10", Rows.laid_internal_strconv_uint64pow10), ("ostler/sha.roundWords", Rows.laid_ostler_sha_roundWords)] W) : Ld W.heap.size W := by
  have h1 := kis (met_words h)
  have h2 := tis4 (met_bits h)
  have h3 := table10 (met_tens h)
  have hc := h3.cell gP10 0 (by rw [Lib.pow10Tab_length]; decide)
  refine ⟨h1, h2, fun w' hb => ?_, h1.lt, h2.lt⟩
  unfold Lib.TabIs World.var? at *
  rw [gP10] at h3 ⊢
  simp only [Option.bind_some] at h3 ⊢
  rw [hb.block _ (block_lt_of_cell hc)]
  exact h3
/-- A world for the witnesses: the settled one, the tables holding what their initialisers lay. -/
noncomputable def laidWorld4 (os : Os) : World :=
  { laidWorld os with heap := (((laidWorld os).heap.modify 6 fun
      | .cells _ t frozen => .cells (Lib.deBruijn64tab.map fun x : Nat => Value.int .u8 (x : Int)).toArray t frozen
      | o => o).modify 5 fun
      | .cells _ t frozen => .cells (Lib.deBruijn32tab.map fun x : Nat => Value.int .u8 (x : Int)).toArray t frozen
      | o => o).modify 1 fun
      | .cells _ t frozen => .cells (Lib.pow10Tab.map fun x : Int => Value.int .u64 x).toArray t frozen
      | o => o }
end Go.Proofs.YtlkopllpadhnlaaDoor

namespace Go.Proofs.YtlkopllpadhnlaaDoor
open Go Go.RowKit

theorem info_tld : (Tryd.prog.info? 26).map (fun i => (i.zero, i.size, i.bytes)) = some (some (.agg #[.int .i64 0, .int .i64 0, .int .i64 0]), 3, 24) := by kernel_rfl
set_option maxHeartbeats 6400000 in
set_option maxRecDepth 100000 in
theorem dall_any (n : Nat) (w : World) (hn1 : 1 ≤ n) (hn : n ≤ 1024) :
    Calls Tryd.prog 19 #[.int .i64 (n : Int)] w (AllIs 26 w (allT n)) := by
  have hS0 : Box (AlAt 26 w w (.slice none 0 0) (allL n 0)) := ⟨⟨⟨Pk.Row.nil _ _ _, fun k hk => (by cases hk)⟩, Below.refl _ _⟩⟩
  have hN := Box.mk (fun L w' => dnodes_any n L w')
  have hWd := Box.mk (fun L I w' => dwidth_any n L I w' (by omega))
  obtain ⟨i0, hi0, hz0, hz1, hz2⟩ := info_parts info_tld
  have hH := Box.mk (And.intro hi0 (And.intro hz0 (And.intro hz1 hz2)))
  clear hi0 hz0 hz1 hz2
  go_enter Tryd.func19, Tryd.ntmps19
  go_wp2_with fail
  go_loopw [3, 4, 5] (fun v3 v4 _ wr => ∃ L : Nat, L ≤ 6 ∧ v4 = .int .i64 (L : Int) ∧ Box (AlAt 26 w wr v3 (allL n L))) (fun _ v4 _ _ => 6 - (intOf v4).toNat)
  case atStart => exact ⟨0, by omega, rfl, hS0⟩
  case round =>
    clear hS0
    obtain ⟨L, hL, rfl, hA⟩ := hrel
    obtain ⟨a, c, rfl⟩ := hA.out.r.row.shape
    have hN1 := hN.out L wr (by omega)
    have hnl := nodN_le n L
    by_cases h0 : nodN n L = 0
    · rw [h0] at hN1
      have he := Box.mk (allL_end n hn (6 - L) L (by omega) h0)
      clear hN hWd hH
      go_wp2_with fail
      refine hN1.mono ?_
      rintro e w1 ⟨rfl, hw1⟩
      subst hw1
      clear hN1
      go_wp2_with fail
      go_ret
      exact ⟨_, rfl, by rw [← he.out]; exact hA.out.r, hA.out.bel⟩
    · have hL6 : L < 6 := by
        rcases Nat.lt_or_ge L 6 with h | h
        · exact h
        · obtain rfl : L = 6 := by omega
          exact absurd (nod6 hn) h0
      obtain ⟨N, hNe⟩ : ∃ N, nodN n L = N := ⟨_, rfl⟩
      rw [hNe] at hN1 hnl h0
      have hal := Box.mk (allL_len hn L)
      have hpos : (0 : Int) < (N : Int) := by omega
      go_wp2_with fail
      refine hN1.mono ?_
      rintro e w1 ⟨rfl, hw1⟩
      subst hw1
      clear hN1
      go_wp2_with fail
      obtain ⟨C, hC⟩ : ∃ C, (N + 3) / 4 = C := ⟨_, rfl⟩
      have hlv := Box.mk (show lvlI n L C = lvlT n L by unfold lvlI lvlT; rw [hNe, hC])
      have hwp : Box (∀ I, I < C → ((widN n L I).toNat : Int) = max 0 (widN n L I) ∧ 0 < (widN n L I).toNat) := ⟨fun I hI => by
        have : widN n L I = min 4 ((nodN n L : Int) - (I : Int) * 4) := rfl
        rw [hNe] at this
        omega⟩
      have hw0 : Box (max 0 (widN n L C) = 0) := ⟨by
        have : widN n L C = min 4 ((nodN n L : Int) - (C : Int) * 4) := rfl
        rw [hNe] at this
        omega⟩
      have hS1 : Box (AlAt 26 w wr (.slice a (allL n L).length c) (allL n L ++ lvlI n L 0)) := ⟨by rw [show lvlI n L 0 = [] from rfl, List.append_nil]; exact hA.out⟩
      have hC256 : C ≤ 256 := by omega
      have hp2 : 0 < N := by omega
      simp only [hp2, decide_true]
      clear hN hA hpos hNe hC hp2
      go_loopw [3, 5] (fun v3 v5 wr => ∃ I : Nat, I ≤ C ∧ v5 = .int .i64 (I : Int) ∧ Box (AlAt 26 w wr v3 (allL n L ++ lvlI n L I))) (fun _ v5 _ => C - (intOf v5).toNat)
      case atStart => exact ⟨0, by omega, rfl, hS1⟩
      case round =>
        clear hS1
        obtain ⟨I, hI, rfl, hA⟩ := hrel
        obtain ⟨a2, c2, rfl⟩ := hA.out.r.row.shape
        have hlI : (lvlI n L I).length = I := by unfold lvlI; simp
        obtain ⟨m, hm⟩ : ∃ m, (allL n L ++ lvlI n L I).length = m := ⟨_, rfl⟩
        have hm2 : m ≤ 8000 := by rw [← hm, List.length_append, hlI]; have := hal.out; omega
        have hW := hWd.out L I wr (by omega) (by omega)
        by_cases hlt : I < C
        · rw [← (hwp.out I hlt).1] at hW
          have hW0 := (hwp.out I hlt).2
          obtain ⟨W, hWe⟩ : ∃ W, (widN n L I).toNat = W := ⟨_, rfl⟩
          have hnx := Box.mk (lvlI_next n L I)
          rw [hWe] at hW hnx hW0
          rw [hm] at hA ⊢
          have hii : (0 : Int) < (W : Int) := by omega
          replace hm := Box.mk hm
          clear hWe hlI
          go_wp2_with fail
          refine hW.mono ?_
          rintro e w1 ⟨rfl, hw1⟩
          subst hw1
          go_wp2_with fail
          refine hW.mono ?_
          clear hW
          rintro e w1 ⟨rfl, hw1⟩
          subst hw1
          have hal1 := bel_alloc wr (.cells #[.int .i64 (L : Int), .int .i64 (I : Int), .int .i64 (W : Int)] 26)
          have hA2 := Box.mk (show AlAt 26 w _ (.slice a2 m c2) (allL n L ++ lvlI n L I) from ⟨hA.out.r.here hal1, mono_bel hA.out.bel hal1 (Nat.le_refl _)⟩)
          have hP := Box.mk (Pk.Blk.new wr [.int .i64 (L : Int), .int .i64 (I : Int), .int .i64 (W : Int)] 26)
          have hrow := hA2.out.r.row
          rw [hm.out] at hrow
          replace hrow := Box.mk hrow
          clear hal1 hA
          go_wp2_with (at_builtin; refine Pk.wpList_pushR rfl (.tmp 26) (.tmp 34) 33 26 rfl i0 (.agg #[.int .i64 0, .int .i64 0, .int .i64 0]) 3 24 Tryd.underlying33 hH.out.1 hH.out.2.1 hH.out.2.2.1 hH.out.2.2.2 rfl (by decide) _ m (tlsC (allL n L ++ lvlI n L I)) rfl hrow.out ⟨wr.heap.size, 0, none⟩ 1 1 (tlC ⟨L, I, W⟩) rfl rfl (fun j u hj => by rw [show (⟨wr.heap.size, 0, none⟩ : Addr).add j = ⟨wr.heap.size, j, none⟩ by unfold Addr.add; split <;> simp_all]; rw [Pk.Blk.cell hP.out j]; exact hj) (fun u hu => by simp only [tlC, List.mem_cons, List.not_mem_nil, or_false] at hu; rcases hu with rfl | rfl | rfl <;> rfl) (by unfold maxLen; omega) (by omega) ?_)
          rintro v2 w2 hp
          replace hp : Pk.PushedRow (wr.alloc (.cells #[.int .i64 (L : Int), .int .i64 (I : Int), .int .i64 (W : Int)] 26)) 26 3 (.slice a2 m c2) ((allL n L ++ lvlI n L I).length + 1) (tlsC (allL n L ++ lvlI n L I) ++ tlC ⟨L, I, W⟩) v2 w2 := by rw [hm.out]; exact hp
          have hA3 : Box (AlAt 26 w w2 v2 (allL n L ++ lvlI n L (I + 1))) := ⟨by rw [hnx.out, ← List.append_assoc]; exact hA2.out.push hp⟩
          clear hp hA2 hP hrow
          go_wp2_with fail
          exact ⟨⟨I + 1, by omega, by go_num, hA3⟩, by simp [intOf]; omega⟩
        · obtain rfl : I = C := by omega
          rw [hw0.out] at hW
          have hA4 : Box (AlAt 26 w wr (.slice a2 (allL n L ++ lvlI n L I).length c2) (allL n (L + 1))) := ⟨by rw [allL_next, ← hlv.out]; exact hA.out⟩
          rw [hm] at hA4 ⊢
          clear hA hm hw0 hwp
          go_wp2_with fail
          refine hW.mono ?_
          clear hW
          rintro e w1 ⟨rfl, hw1⟩
          subst hw1
          go_wp2_with fail
          exact ⟨⟨L + 1, by omega, by go_num, hA4⟩, by simp [intOf]; omega⟩
set_option maxHeartbeats 1600000 in
set_option maxRecDepth 100000 in
theorem dall_none (n : Int) (w : World) (hn : n < 1 ∨ 1024 < n) :
    Calls Tryd.prog 19 #[.int .i64 n] w fun e w' => e = .returned (.slice none 0 0) ∧ w = w' := by
  by_cases h1 : n < 1
  · clear hn
    go_enter Tryd.func19, Tryd.ntmps19
    go_wp2_with fail
    go_ret
    exact ⟨rfl, rfl⟩
  · have h2 : 1024 < n := by omega
    clear hn
    go_enter Tryd.func19, Tryd.ntmps19
    go_wp2_with fail
    go_ret
    exact ⟨rfl, rfl⟩
end Go.Proofs.YtlkopllpadhnlaaDoor

namespace Go.Proofs.YtlkopllpadhnlaaDoor
open Go Go.RowKit

theorem texB_self' (l : List ByteArray) : texB l l = true := by simp [texB]
theorem incL_len' (l : List ByteArray) (z : Int) (hl : l.length ≤ 9223372036854775807) : (incL l z).length ≤ 63 := by
  unfold incL
  split
  · exact placeL_63 hl _
  · exact Nat.zero_le _
theorem conL_len' (l : List ByteArray) (z : Int) (hl : l.length ≤ 9223372036854775807) : (conL l z).length ≤ 64 := by
  unfold conL
  split
  · exact partL_64 hl _ _
  · exact Nat.zero_le _
theorem tlsC_at : ∀ (ts : List Tl) (i : Nat) (t : Tl), ts[i]? = some t → ∀ j, j < 3 → (tlsC ts)[i * 3 + j]? = (tlC t)[j]?
  | [], i, t, h, _, _ => by simp at h
  | q :: ts, 0, t, h, j, hj => by
    obtain rfl : q = t := by simpa using h
    rw [tlsC, List.flatMap_cons, Nat.zero_mul, Nat.zero_add, List.getElem?_append_left (by simpa [tlC] using hj)]
  | q :: ts, i + 1, t, h, j, hj => by
    rw [tlsC, List.flatMap_cons, List.getElem?_append_right (by simp [tlC]; omega), ← tlsC, show (tlC q).length = 3 from rfl, show (i + 1) * 3 + j - 3 = i * 3 + j by omega]
    exact tlsC_at ts i t (by simpa using h) j hj
theorem tln_pos {n : Nat} {t : Tl} (h : TlN n t) : 1 ≤ n := by
  obtain ⟨⟨_, _, h3, _⟩, h5⟩ := h
  have h6 : widN n t.L t.I = min 4 ((nodN n t.L : Int) - (t.I : Int) * 4) := rfl
  have h7 := nodN_le n t.L
  omega
theorem tln_all {n : Nat} {t : Tl} (h : TlN n t) : t ∈ allT n := by
  obtain ⟨⟨h1, _, h3, _⟩, h5⟩ := h
  have h6 : widN n t.L t.I = min 4 ((nodN n t.L : Int) - (t.I : Int) * 4) := rfl
  unfold allT allL
  refine List.mem_flatMap.2 ⟨t.L, List.mem_range.2 (by omega), ?_⟩
  unfold lvlT
  refine List.mem_map.2 ⟨t.I, List.mem_range.2 (by omega), ?_⟩
  obtain ⟨L, I, W⟩ := t
  simp only [Tl.mk.injEq, true_and]
  simp only at h5
  omega
theorem allT_ok {n : Nat} (hn : n ≤ 1024) {t : Tl} (h : t ∈ allT n) : TlN n t := by
  unfold allT allL at h
  obtain ⟨L, hL, h2⟩ := List.mem_flatMap.1 h
  rw [List.mem_range] at hL
  unfold lvlT at h2
  obtain ⟨I, hI, rfl⟩ := List.mem_map.1 h2
  rw [List.mem_range] at hI
  have h6 : widN n L I = min 4 ((nodN n L : Int) - (I : Int) * 4) := rfl
  have h7 := nodN_le n L
  exact ⟨⟨show L ≤ 5 by omega, show I ≤ 255 by omega, show 1 ≤ (widN n L I).toNat by omega, show (widN n L I).toNat ≤ 4 by omega⟩, show (((widN n L I).toNat : Nat) : Int) = widN n L I by omega⟩
theorem TlR.cell {ty : TypeId} {B : Nat} {w : World} {gt c m : Nat} {ts : List Tl} (h : TlR ty B w (.slice (some ⟨gt, 0, none⟩) m c) ts) (hm : ts.length = m) {i : Nat} (hi : i < m) :
    w.cell? ⟨gt, i * 3, none⟩ = some (.int .i64 ((ts[i]'(by omega)).L : Int)) ∧ w.cell? ⟨gt, i * 3 + 1, none⟩ = some (.int .i64 ((ts[i]'(by omega)).I : Int)) ∧ w.cell? ⟨gt, i * 3 + 2, none⟩ = some (.int .i64 ((ts[i]'(by omega)).W : Int)) := by
  subst hm
  have h0 : ts[i]? = some ts[i] := List.getElem?_eq_getElem hi
  exact ⟨h.row.cells (i * 3) _ (tlsC_at ts i _ h0 0 (by decide)), h.row.cells (i * 3 + 1) _ (tlsC_at ts i _ h0 1 (by decide)), h.row.cells (i * 3 + 2) _ (tlsC_at ts i _ h0 2 (by decide))⟩
/-- What was asked for, kept in a row. -/
structure AskQ (w0 w : World) (va : Value) (P : List ByteArray) : Prop where
  tx : TxR w0.heap.size w va P
  bel : Below w0.heap.size w0 w
theorem AskQ.here {w0 w w' : World} {va : Value} {P : List ByteArray} (h : AskQ w0 w va P) (hb : Below w.heap.size w w') : AskQ w0 w' va P := ⟨h.tx.here hb, mono_bel h.bel hb (Nat.le_refl _)⟩
theorem GS.askq {w0 w1 w : World} {a : Option Addr} {n c : Nat} {l : List ByteArray} {gone long : ByteArray} {g : Nat} {rs : List (Value × List ByteArray)} {A : List Tl} (h : GS w1 a n c l gone long g rs A w) (hb : Below w0.heap.size w0 w1) :
    ∃ va, w.cell? ⟨g, 3, none⟩ = some va ∧ AskQ w0 w va (A.map tlp) := by
  obtain ⟨F, ⟨⟨va, hbk, hT, _⟩, _, _⟩, _⟩ := h.fl
  exact ⟨va, hbk.cell 3, hT.base hb.size, mono_bel hb h.bel (Nat.le_refl _)⟩
set_option maxHeartbeats 12800000 in
set_option maxRecDepth 100000 in
theorem law_roots (n0 : Nat) (z y : Int) (W : World) (hL : Ld W.heap.size W) (h0 : n0 < 256) :
    Calls Tryd.prog 5 #[.int .u8 (n0 : Int), .int .i64 z, .int .i64 y] W fun e W' => e = .returned (.bool true) ∧ Below W.heap.size W W' := by
  have hR := reads_any W.heap.size W hL (Nat.le_refl _)
  obtain ⟨k, hk⟩ : ∃ k, n0 % 90 = k := ⟨_, rfl⟩
  have hk1 : (n0 : Int) % 90 = (k : Int) := by omega
  have hkl : k < 90 := by omega
  have hLv := Box.mk (fun w => leavesT_any k w (by omega))
  unfold LeavesT at hLv
  replace hL := Box.mk hL
  clear hk
  go_enter Tryd.func5, Tryd.ntmps5
  go_wp2_with fail
  refine hR.mono ?_
  clear hR
  rintro e w1 ⟨rfl, hb1⟩
  have hL1 := hL.out.here hb1 (Nat.le_refl _)
  replace hb1 := Box.mk hb1
  go_wp2_with fail
  refine (hLv.out w1).mono ?_
  clear hLv
  rintro e w2 ⟨v, l, rfl, hll, h32, hT, hb2⟩
  obtain ⟨a, c, rfl⟩ := hT.shape
  rw [hll] at hT ⊢
  have h32' : All32 l := h32
  have htk : l.take k = l := List.take_of_length_le (by rw [hll]; exact Nat.le_refl _)
  have hS0 := gs_new (hL1.up hb1.out.size) hT hll hb2 ByteArray.empty ByteArray.empty
  obtain ⟨W1, hW1⟩ : ∃ W1, w2.alloc (.cells #[.slice a k c, .string ByteArray.empty, .string ByteArray.empty, .slice none 0 0] 46) = W1 := ⟨_, rfl⟩
  obtain ⟨g, hg⟩ : ∃ g, w2.heap.size = g := ⟨_, rfl⟩
  rw [hW1, hg] at hS0
  have hR1 := groot k W1 hS0 h32' (by omega) hll (Nat.le_refl _) (by simp)
  rw [htk] at hR1
  unfold flV at hR1
  replace hW1 := Box.mk hW1
  replace hg := Box.mk hg
  replace h32 := Box.mk h32'
  replace hll := Box.mk hll
  replace htk := Box.mk htk
  have hl63 : Box (l.length ≤ 9223372036854775807) := ⟨by rw [hll.out]; omega⟩
  have hcap := (hT.pa hll.out).cap
  have htop := (hT.pa hll.out).top
  clear hT hL1 hb2 h32' hS0
  go_wp2_with fail
  rw [show w2.alloc (.cells #[.slice a k c, .string ⟨#[]⟩, .string ⟨#[]⟩, .slice none 0 0] 46) = W1 from hW1.out, hg.out]
  refine hR1.mono ?_
  clear hR1 hW1 hg
  rintro e w3 ⟨A1, rfl, hS1, hA1, hA1l⟩
  have hR2 := ginc k z w3 hS1 h32.out (by omega) hll.out (Nat.le_refl _) (by simp; omega)
  have s1 := incL_len' l z hl63.out
  have s2 := conL_len' l y hl63.out
  rw [htk.out] at hR2
  obtain ⟨r1, hr1⟩ : ∃ r, rootL l = r := ⟨_, rfl⟩
  obtain ⟨I, hI⟩ : ∃ I, incL l z = I := ⟨_, rfl⟩
  obtain ⟨J, hJ⟩ : ∃ J, incE l z = J := ⟨_, rfl⟩
  obtain ⟨C, hC⟩ : ∃ C, conL l y = C := ⟨_, rfl⟩
  obtain ⟨D, hD⟩ : ∃ D, conE l y = D := ⟨_, rfl⟩
  rw [hI] at s1
  rw [hC] at s2
  rw [hI, hJ] at hR2
  rw [hr1]
  unfold flV at hR2
  replace hA1 := Box.mk hA1
  replace hr1 := Box.mk hr1
  replace hI := Box.mk hI
  replace hJ := Box.mk hJ
  replace hC := Box.mk hC
  replace hD := Box.mk hD
  clear hS1
  go_wp2_with fail
  refine hR2.mono ?_
  clear hR2
  rintro e w4 ⟨A2, v3, rfl, hS2, hA2, hA2l⟩
  have h1 := rinclusion_any k l z a c w4 hS2.pa h32.out.fit
  rw [hI.out, hJ.out] at h1
  unfold RowsE at h1
  replace hS2 := Box.mk hS2
  replace hA2 := Box.mk hA2
  go_wp2_with fail
  refine h1.mono ?_
  clear h1
  rintro e w5 ⟨v4, rfl, hT4, hb5⟩
  have hS3 := hS2.out.add hb5 hT4
  have hR2 := gcon k y w5 hS3 h32.out (by omega) hll.out (Nat.le_refl _) (by simp; omega)
  rw [htk.out, hC.out, hD.out] at hR2
  unfold flV at hR2
  clear hS2 hT4 hb5 hS3
  go_wp2_with fail
  refine hR2.mono ?_
  clear hR2
  rintro e w6 ⟨A3, v5, rfl, hS4, hA3, hA3l⟩
  have h1 := rconsistency_any k l y a c w6 hS4.pa h32.out.fit
  rw [hC.out, hD.out] at h1
  unfold RowsE at h1
  replace hS4 := Box.mk hS4
  replace hA3 := Box.mk hA3
  go_wp2_with fail
  refine h1.mono ?_
  clear h1
  rintro e w7 ⟨v6, rfl, hT6, hb7⟩
  have hS5 := Box.mk (hS4.out.add hb7 hT6)
  have h1 := rroot_any k l a c w7 hS5.out.pa h32.out.fit
  rw [hr1.out] at h1
  have hrq : (r1.toList == r1.toList) = true := by simp
  clear hS4 hT6 hb7 hr1 hI hJ hC hD h32 htk hl63
  go_wp2_with fail
  refine h1.mono ?_
  clear h1
  rintro e w8 ⟨rfl, hb8⟩
  have hS6 := Box.mk (hS5.out.here hb8)
  have h1 := same_any v3 v4 I I w8 (hS6.out.rows (v3, I) (by simp)).parts (hS6.out.rows (v4, I) (by simp)).parts (by unfold maxLen; omega)
  rw [texB_self'] at h1
  clear hS5 hb8
  go_wp2_with fail
  refine h1.mono ?_
  clear h1
  rintro e w9 ⟨rfl, hb9⟩
  have hS7 := Box.mk (hS6.out.here hb9)
  have h1 := same_any v5 v6 C C w9 (hS7.out.rows (v5, C) (by simp)).parts (hS7.out.rows (v6, C) (by simp)).parts (by unfold maxLen; omega)
  rw [texB_self'] at h1
  clear hS6 hb9
  go_wp2_with fail
  refine h1.mono ?_
  clear h1
  rintro e w10 ⟨rfl, hb10⟩
  have hS8 := hS7.out.here hb10
  obtain ⟨va, c3, hQ⟩ := hS8.askq hb1.out
  have hAll : ∀ t ∈ [] ++ A1 ++ A2 ++ A3, TlN k t := fun t ht => by
    rcases List.mem_append.1 ht with ht | ht
    · rcases List.mem_append.1 ht with ht | ht
      · exact hA1.out t (by simpa using ht)
      · exact hA2.out t ht
    · exact hA3.out t ht
  have hPl : (([] ++ A1 ++ A2 ++ A3).map tlp).length ≤ 20000 := by simp; omega
  obtain ⟨A, hA⟩ : ∃ A, [] ++ A1 ++ A2 ++ A3 = A := ⟨_, rfl⟩
  rw [hA] at hQ hAll hPl
  obtain ⟨aq, cq, rfl⟩ := hQ.tx.shape
  obtain ⟨m, hm⟩ : ∃ m, (A.map tlp).length = m := ⟨_, rfl⟩
  rw [hm] at c3 hQ hPl
  replace hm := Box.mk hm
  replace hAll := Box.mk hAll
  replace hQ := Box.mk hQ
  clear hb10 hS7 hS8 hA hA1 hA2 hA3 hA1l hA2l hA3l hb1
  go_wp2_with fail
  go_loopw [21, 22, 105] (fun _ _ v105 wr => ∃ i : Nat, i ≤ m ∧ v105 = .int .i64 (i : Int) ∧ Box (AskQ W wr (.slice aq m cq) (A.map tlp))) (fun _ _ v105 _ => m - (intOf v105).toNat)
  case atStart => exact ⟨0, by omega, rfl, hQ⟩
  case round =>
    clear hQ c3
    obtain ⟨i, hi, rfl, hQ⟩ := hrel
    by_cases hlt : i < m
    · have hAl : i < A.length := by have := hm.out; simp at this; omega
      obtain ⟨ga, off, rfl, hga, hcl⟩ := (hQ.out.tx.pa hm.out).at_ (by omega)
      have e1 := hcl i hlt
      obtain ⟨t, ht⟩ : ∃ t, A[i]'hAl = t := ⟨_, rfl⟩
      have hgd : (A.map tlp).getD i ByteArray.empty = tlp t := by simp [List.getD, hAl, ht]
      rw [hgd] at e1
      have htN : TlN k t := hAll.out t (by rw [← ht]; exact List.getElem_mem _)
      have hk0 := tln_pos htN
      have hmem := Box.mk (tln_all htN)
      have hD := dall_any k wr hk0 (by omega)
      unfold AllIs at hD
      obtain ⟨p, hp⟩ : ∃ p, tlp t = p := ⟨_, rfl⟩
      rw [hp] at e1
      replace hp := Box.mk hp
      clear hcl hgd htN ht hAl
      go_wp2_with fail
      refine hD.mono ?_
      clear hD
      rintro e w11 ⟨vt, rfl, hTl, hb11⟩
      have hM0 : 0 < (allT k).length := List.length_pos_of_mem hmem.out
      obtain ⟨gt, ct, rfl, hgt⟩ := hTl.row.some hM0
      obtain ⟨M, hM⟩ : ∃ M, (allT k).length = M := ⟨_, rfl⟩
      have hQ1 := Box.mk (hQ.out.here hb11)
      have hM8 : M ≤ 8000 := by rw [← hM]; have := allL_len (n := k) (by omega) 6; unfold allT; omega
      rw [hM] at hTl ⊢
      have hLd := Box.mk (fun w' (h : AskQ W w' (.slice (some ⟨ga, off, none⟩) m cq) (A.map tlp)) => hL.out.here h.bel (Nat.le_refl _))
      replace hTl := Box.mk hTl
      replace hM := Box.mk hM
      clear e1 hQ hb11 hga
      go_wp2_with fail
      have hI0 : Box (∀ q, q < 0 → ∀ u, (allT k)[q]? = some u → tlp u = p → false = true) := ⟨fun q hq => by omega⟩
      go_loopw [22, 112] (fun v22 v112 wr => ∃ (j : Nat) (fb : Bool), j ≤ M ∧ v112 = .int .i64 (j : Int) ∧ v22 = .bool fb ∧ Box (∀ q, q < j → ∀ u, (allT k)[q]? = some u → tlp u = p → fb = true) ∧ Box (TlR 26 0 wr (.slice (some ⟨gt, 0, none⟩) M ct) (allT k)) ∧ Box (AskQ W wr (.slice (some ⟨ga, off, none⟩) m cq) (A.map tlp))) (fun _ v112 _ => M - (intOf v112).toNat)
      case atStart => exact ⟨0, false, by omega, rfl, rfl, hI0, ⟨⟨hTl.out.row, fun k hk => Nat.zero_le _⟩⟩, hQ1⟩
      case round =>
        clear hTl hQ1 hI0 hgt
        obtain ⟨j, fb, hj, rfl, rfl, hfb, hTl, hQ⟩ := hrel
        by_cases hjl : j < M
        · obtain ⟨e0, e1, e2⟩ := hTl.out.cell hM.out hjl
          obtain ⟨u, hu⟩ : ∃ u, (allT k)[j]'(by rw [hM.out]; exact hjl) = u := ⟨_, rfl⟩
          rw [hu] at e0 e1 e2
          have huj : Box ((allT k)[j]? = some u) := ⟨by rw [← hu]; exact List.getElem?_eq_getElem _⟩
          have hgt : gt < wr.heap.size := hTl.out.row.lt gt rfl
          have hD := fun w' (hb : Below wr.heap.size wr w') => dpath_any u.L u.I u.W W.heap.size w' (hLd.out w' (hQ.out.here hb)) (hQ.out.here hb).bel.size
          have hpu : pathT u.L u.I u.W = tlp u := rfl
          simp only [hpu] at hD
          obtain ⟨pu, hpu2⟩ : ∃ pu, tlp u = pu := ⟨_, rfl⟩
          rw [hpu2] at hD
          unfold tv at hD
          replace hpu2 := Box.mk hpu2
          replace hD := Box.mk hD
          clear hu hpu
          cases fb
          · go_wp2_with fail
            refine (hD.out _ (bel_alloc _ _)).mono ?_
            clear hD e0 e1 e2
            rintro e w12 ⟨rfl, hb12⟩
            have hb13 := mono_bel (bel_alloc wr _) hb12 (Nat.le_refl _)
            have hTl2 := Box.mk (hTl.out.here hb13)
            have hQ2 := Box.mk (hQ.out.here hb13)
            have hpp : Box (∀ q, q < j + 1 → ∀ u, (allT k)[q]? = some u → tlp u = p → (pu.toList == p.toList) = true) := ⟨fun q hq u2 e he => by
              by_cases hqj : q < j
              · exact absurd (hfb.out q hqj u2 e he) (by decide)
              · obtain rfl : q = j := by omega
                rw [huj.out] at e
                cases e
                rw [← he, ← hpu2.out]
                simp⟩
            clear hb12 hb13 hTl hQ hfb huj hpu2
            go_wp2_with fail
            exact ⟨⟨j + 1, _, by omega, by go_num, rfl, hpp, hTl2, hQ2⟩, by simp [intOf]; omega⟩
          · have hTl2 := fun w' (hb : Below wr.heap.size wr w') => Box.mk (hTl.out.here hb)
            have hQ2 := fun w' (hb : Below wr.heap.size wr w') => Box.mk (hQ.out.here hb)
            clear hD
            go_wp2_with fail
            exact ⟨⟨j + 1, true, by omega, by go_num, rfl, ⟨fun q _ u _ _ => rfl⟩, hTl2 _ (bel_alloc _ _), hQ2 _ (bel_alloc _ _)⟩, by simp [intOf]; omega⟩
        · obtain rfl : j = M := by omega
          have hft : fb = true := by
            obtain ⟨q, hq, e⟩ := List.getElem_of_mem hmem.out
            exact hfb.out q (by rw [← hM.out]; exact hq) t (by rw [List.getElem?_eq_getElem hq, e]) hp.out
          subst hft
          clear hfb hM hp hmem hm hM0
          go_wp2_with fail
          exact ⟨⟨i + 1, by omega, by go_num, hQ⟩, by simp [intOf]; omega⟩
    · obtain rfl : i = m := by omega
      clear hm
      go_wp2_with fail
      go_ret
      exact ⟨rfl, hQ.out.bel⟩
end Go.Proofs.YtlkopllpadhnlaaDoor

namespace Go.Proofs.YtlkopllpadhnlaaDoor
open Go Go.RowKit

theorem chk_used (b : Nat) (w : World) (h0 : w.cell? ⟨b, 0, none⟩ = some (.pointer (some ⟨b, 0, none⟩))) :
    Calls Tryd.prog 61 #[.pointer (some ⟨b, 0, none⟩)] w fun e w' => e = .returned (.tuple #[]) ∧ w' = w :=
  Any.Builder_copyCheck_used { Tryd.lays166 with } Tryd.Builder_Extra_166.toX72 b w h0
theorem chk_fresh (b : Nat) (v : Value) (w : World) (hb : Pk.Blk w b [.pointer none, v] 79) :
    Calls Tryd.prog 61 #[.pointer (some ⟨b, 0, none⟩)] w fun e w' => e = .returned (.tuple #[]) ∧ w' = w.setCell ⟨b, 0, none⟩ (.pointer (some ⟨b, 0, none⟩)) :=
  Any.Builder_copyCheck_fresh { Tryd.lays166 with } Tryd.Builder_Extra_166.toX72 b w (hb.cell 0) (by
    have : w.heap[b]? = some (.cells #[.pointer none, v] 79 (0, 0)) := hb
    simp only [World.shape?, this]
    rfl) (hb.free 0)
/-- A builder in block b: what it has. -/
structure BdAt (w : World) (b : Nat) (v : Value) (l : List UInt8) : Prop where
  blk : ∃ p, (p = .pointer none ∨ p = .pointer (some ⟨b, 0, none⟩)) ∧ Pk.Blk w b [p, v] 79
  own : Pk.Own w v l
theorem BdAt.new (w : World) : BdAt (w.alloc (.cells #[.pointer none, .slice none 0 0] 79)) w.heap.size (.slice none 0 0) [] :=
  ⟨⟨_, .inl rfl, Pk.Blk.new w [.pointer none, .slice none 0 0] _⟩, Pk.Own.nil _⟩
theorem BdAt.chg {S : Nat → Prop} {w w' : World} {b : Nat} {v : Value} {l : List UInt8} (h : BdAt w b v l) (hc : Pk.Chg S w w') (hb : ¬ S b) (hv : ∀ k, v.ownBlock = some k → ¬ S k) : BdAt w' b v l := by
  obtain ⟨p, hp, hk⟩ := h.blk
  exact ⟨⟨p, hp, hc.blk hk hb⟩, h.own.chg hc hv⟩
theorem BdAt.apart {w : World} {b : Nat} {v : Value} {l : List UInt8} (h : BdAt w b v l) : v.ownBlock ≠ some b := by
  obtain ⟨p, hp, hk⟩ := h.blk
  exact h.own.apart hk (by decide)
theorem chk_any (b : Nat) (v : Value) (l : List UInt8) (w : World) (h : BdAt w b v l) :
    Calls Tryd.prog 61 #[.pointer (some ⟨b, 0, none⟩)] w fun e w' => e = .returned (.tuple #[]) ∧ Pk.Blk w' b [.pointer (some ⟨b, 0, none⟩), v] 79 ∧ Pk.Own w' v l ∧ Pk.Chg (fun k => k = b) w w' := by
  obtain ⟨p, hp, hk⟩ := h.blk
  rcases hp with rfl | rfl
  · refine (chk_fresh b v w hk).mono fun e w' he => ⟨he.1, ?_⟩
    rw [he.2]
    have hs : Pk.Chg (fun k => k = b) w (w.setCell ⟨b, 0, none⟩ (.pointer (some ⟨b, 0, none⟩))) := (Pk.Chg.refl (fun k => k = b) w).setCell (p := ⟨b, 0, none⟩) rfl _
    exact ⟨hk.setCell 0 _, h.own.chg hs fun k hk e => h.apart (by rw [hk, e]), hs⟩
  · refine (chk_used b w (hk.cell 0)).mono fun e w' he => ⟨he.1, ?_⟩
    rw [he.2]
    exact ⟨hk, h.own, Pk.Chg.refl _ _⟩
/-- What a write leaves. -/
structure BdPut (w : World) (b : Nat) (v : Value) (l : List UInt8) (v' : Value) (w' : World) : Prop where
  at_ : BdAt w' b v' l
  chg : Pk.Chg (fun k => k = b ∨ v.ownBlock = some k) w w'
  place : ∀ k, v'.ownBlock = some k → v.ownBlock = some k ∨ w.heap.size ≤ k
set_option maxHeartbeats 1600000 in
set_option maxRecDepth 100000 in
theorem wstr_any (b : Nat) (v : Value) (l : List UInt8) (s : ByteArray) (w : World) (h : BdAt w b v l) (hlen : l.length + s.size ≤ 70368744177664) :
    Calls Tryd.prog 41 #[.pointer (some ⟨b, 0, none⟩), .string s] w fun e w' => e = .returned (.tuple #[.int .i64 (s.size : Int), .nilIface]) ∧ ∃ v', BdPut w b v (l ++ s.data.toList) v' w' := by
  have hC := chk_any b v l w h
  obtain ⟨a, c, rfl⟩ := h.own.shape
  replace h := Box.mk h
  go_enter Tryd.func41, Tryd.ntmps41
  go_wp2_with fail
  refine hC.mono ?_
  clear hC
  rintro e w1 ⟨rfl, hk, hO, hc1⟩
  have c1 := hk.cell 1
  simp only [List.getElem?_cons_zero, List.getElem?_cons_succ] at c1
  replace hk := Box.mk hk
  replace hO := Box.mk hO
  replace hc1 := Box.mk hc1
  go_wp2_with (at_builtin; refine Pk.wpList_pushS rfl (.tmp 12) (.tmp 13) rfl _ l rfl hO.out s rfl hlen ?_)
  intro v' w2 hp
  have hap := hO.out.apart hk.out (by decide)
  have hk2 := hp.chg.blk hk.out fun e => hap e
  have d1 := hk2.cell 1
  have f1 := hk2.free 1
  simp only [List.getElem?_cons_zero, List.getElem?_cons_succ] at d1
  obtain ⟨a2, cc, rfl⟩ := hp.own.shape
  obtain ⟨M, hM⟩ : ∃ M, (l ++ s.data.toList).length = M := ⟨_, rfl⟩
  rw [hM] at hp ⊢
  clear hM
  replace hk2 := Box.mk hk2
  replace hp := Box.mk hp
  clear hlen
  go_wp2_with fail
  go_returns
  have hs : Pk.Chg (fun k => k = b) w2 (w2.setCell ⟨b, 1, none⟩ (.slice a2 M cc)) := (Pk.Chg.refl (fun k => k = b) w2).setCell (p := ⟨b, 1, none⟩) rfl _
  have hap2 := hp.out.own.apart hk2.out (by decide)
  refine ⟨rfl, _, ⟨⟨_, .inr rfl, hk2.out.setCell 1 _⟩, hp.out.own.chg hs fun k hk e => hap2 (by rw [hk, e])⟩, ?_, fun k hk => ?_⟩
  · exact ((hc1.out.mono fun i _ e => .inl e).trans (hp.out.chg.mono fun i _ e => .inr e) fun i _ e => e).trans hs fun i _ e => .inl e
  · rcases hp.out.place k hk with h1 | h1
    · exact .inl h1
    · exact .inr (Nat.le_trans hc1.out.size h1)
theorem freeze_chg (w : World) (g n : Nat) : Pk.Chg (fun k => k = g) w (w.freeze ⟨g, 0, none⟩ n) := by
  have h := Lib.below_freeze (B := 0) (Below.refl 0 w) (p := ⟨g, 0, none⟩) (Nat.zero_le _) n
  refine ⟨h.os, h.tape, h.output, h.size, fun k hk hn => ?_⟩
  unfold World.freeze
  split
  · rfl
  · simp only [Array.getElem?_modify]
    rw [if_neg (Ne.symm hn)]
set_option maxHeartbeats 1600000 in
set_option maxRecDepth 100000 in
/-- What it has as a text. -/
theorem bstr_any (b : Nat) (v : Value) (l : List UInt8) (w : World) (h : BdAt w b v l) (h0 : l ≠ []) :
    Calls Tryd.prog 43 #[.pointer (some ⟨b, 0, none⟩)] w fun e w' => e = .returned (.string ⟨l.toArray⟩) ∧ Pk.Chg (fun k => v.ownBlock = some k) w w' := by
  obtain ⟨p, _, hk⟩ := h.blk
  have hown := h.own
  have hl0 : l.length ≠ 0 := by simpa using h0
  obtain ⟨g, cap, cur, rfl, _, hg, hnc, hcm, hcs, htake⟩ : ∃ g cap cur, v = .slice (some ⟨g, 0, none⟩) l.length cap ∧ 0 ≤ g ∧ w.heap[g]? = some (.cells cur 5 (0, 0)) ∧ l.length ≤ cap ∧ cap ≤ maxLen ∧ cur.size = cap * 1 ∧ cur.toList.take (l.length * 1) = l.map Pk.yc := by
    rcases hown.2 with ⟨_, hz⟩ | ⟨g, cap, cur, hv, r⟩
    · exact absurd hz hl0
    · exact ⟨g, cap, cur, hv, r⟩
  have hk2 : Pk.Blk w.drew b [p, .slice (some ⟨g, 0, none⟩) l.length cap] 79 := hk
  have c1 : w.drew.cell? ⟨b, 1, none⟩ = some (.slice (some ⟨g, 0, none⟩) l.length cap) := hk2.cell 1
  have hSD : (Builtin.unsafeSliceData_ #[75] 105 #[.slice (some ⟨g, 0, none⟩) l.length cap]).run Tryd.prog w.drew = .ok (.pointer (some ⟨g, 0, none⟩)) w.drew :=
    Lib.run_unsafeSliceData_row _ _ _ _ _ _ (by omega)
  have hUS : (Builtin.unsafeString_ #[105, 3] 9 #[.pointer (some ⟨g, 0, none⟩), .int .i64 l.length]).run Tryd.prog w.drew = .ok (.string ⟨l.toArray⟩) (w.drew.freeze ⟨g, 0, none⟩ l.length) := by
    refine Lib.run_unsafeString_row w.drew 105 3 9 5 Tryd.underlying105 (by kernel_rfl) g cur.size (by have hg' : w.drew.heap[g]? = some (.cells cur 5 (0, 0)) := hg; simp [World.shape?, hg']) l h0 (by omega) (by unfold maxLen at hcm; omega) ?_
    intro j x hx
    have := World.ownsRow.cells (g := g) hown rfl j (.int .u8 x.toNat) (by simp [Pk.yc, hx]; rfl)
    exact this
  have hfz := (Pk.Chg.refl (fun k => k = g) w).drew.trans (freeze_chg w.drew g l.length) fun i _ e => e
  have hG : Box (Pk.Chg (fun k => (Value.slice (some ⟨g, 0, none⟩) l.length cap).ownBlock = some k) w (w.drew.freeze ⟨g, 0, none⟩ l.length)) := ⟨hfz.mono fun i _ e => by rw [e]; rfl⟩
  clear hfz htake hcs hg hown hk hk2 h hcm hnc
  go_enter Tryd.func43, Tryd.ntmps43
  go_wp2_with fail
  go_region
  all_goals (go_wp2_with fail; go_ret; exact ⟨rfl, hG.out⟩)
end Go.Proofs.YtlkopllpadhnlaaDoor

namespace Go.Proofs.YtlkopllpadhnlaaDoor
open Go Go.RowKit Go.Shelf
attribute [local go_sem] Oper.semAt_some

/-- A part of so many as a value. -/
def ckEnc (b off z : Nat) (q : Nat) : Array Value := #[.slice (some ⟨b, off + q * z, none⟩) z z]
/-- The first so many parts. -/
def ckF (N k : Nat) : List (Fin N) := (List.range k).filterMap fun i => if h : i < N then some ⟨i, h⟩ else none
theorem ckF_succ (N k : Nat) (h : k < N) : ckF N (k + 1) = ckF N k ++ [⟨k, h⟩] := by
  unfold ckF
  rw [List.range_succ, List.filterMap_append]
  simp [h]
theorem ckF_length (N : Nat) : ∀ k, k ≤ N → (ckF N k).length = k
  | 0, _ => rfl
  | k + 1, h => by rw [ckF_succ N k h, List.length_append, ckF_length N k (by omega)]; rfl
theorem chg_cell' {S : Nat → Prop} {w w' : World} {b : Nat} (h : Pk.Chg S w w') (hlt : b < w.heap.size) (hS : ¬ S b) (i : Nat) : w'.cell? ⟨b, i, none⟩ = w.cell? ⟨b, i, none⟩ := by
  unfold World.cell?
  rw [h.block b hlt hS]
set_option maxRecDepth 100000 in
set_option maxHeartbeats 2000000 in
theorem schunk1_in (n : Nat) (hn : 1 ≤ n) (l Bs Bn b off cap z N : Nat) (S : Nat → Prop) (hz : 1 ≤ z) (hcap : N * z ≤ cap) (htop : cap ≤ 9223372036854775807) (hz63 : N * z + z ≤ 9223372036854775807) (hBS : ¬ S Bs) (hBN : ¬ S Bn) (J Jx : List (Fin N) → World → Prop) (hAb : ∀ s W W', J s W → W.grownBy W' none → J s W')
    (hY : ∀ pre x W, J pre W → pre.length < N → YieldAt Fence.wide (n - 1) Tryd.prog l (ckEnc b off z x.val) W fun e W' =>
      (e = .returned (.bool true) ∧ J (pre ++ [x]) W' ∧ Pk.Chg S W W') ∨ (e = .returned (.bool false) ∧ Jx (pre ++ [x]) W'))
    (W : World) (hBlt : Bs < W.heap.size) (hnlt : Bn < W.heap.size) (hBs : W.cell? ⟨Bs, 0, none⟩ = some (.slice (some ⟨b, off, none⟩) (N * z) cap)) (hBn : W.cell? ⟨Bn, 0, none⟩ = some (.int .i64 (z : Int))) (h0 : J [] W) :
    CallsIn Fence.wide n Tryd.prog 60 #[.func (.yield l) #[] #[], .pointer (some ⟨Bs, 0, none⟩), .pointer (some ⟨Bn, 0, none⟩)] W fun e W' => (∃ v, e = .returned v) ∧
      ((∃ ys, ys = ckF N N ∧ J ys W') ∨ (∃ pre, (∃ k, k ≤ N ∧ pre = ckF N k) ∧ Jx pre W')) := by
  obtain ⟨M, hM⟩ : ∃ M, N * z = M := ⟨_, rfl⟩
  rw [hM] at hBs hcap hz63
  have hkc : ∀ (wr : World), Pk.Chg S W wr → wr.cell? ⟨Bs, 0, none⟩ = some (.slice (some ⟨b, off, none⟩) M cap) := fun wr hk => (chg_cell' hk hBlt hBS 0).trans hBs
  have hkn : ∀ (wr : World), Pk.Chg S W wr → wr.cell? ⟨Bn, 0, none⟩ = some (.int .i64 (z : Int)) := fun wr hk => (chg_cell' hk hnlt hBN 0).trans hBn
  replace hkc := Box.mk hkc
  replace hkn := Box.mk hkn
  replace hM := Box.mk hM
  refine callsIn_of_wp Tryd.func60 rfl trivial ?_ rfl
  simp only [Tryd.ntmps60, List.size_toArray, List.length_cons, List.length_nil, Nat.reduceAdd, Nat.reduceSub, Array.replicate_succ, Array.replicate_zero, List.push_toArray, List.append_toArray, List.nil_append, List.cons_append]
  gi_wp2
  gi_loopw [4, 5] (fun i _ wr => ∃ k : Nat, k ≤ N ∧ i = .int .i64 ((k * z : Nat) : Int) ∧ J (ckF N k) wr ∧ Box (Pk.Chg S W wr))
    (fun i _ _ => M - (intOf i).toNat)
  case atStart => exact ⟨0, Nat.zero_le _, by rw [Nat.zero_mul]; rfl, h0, ⟨Pk.Chg.refl _ _⟩⟩
  case round =>
    obtain ⟨k, hk, rfl, hJs, hnx⟩ := hrel
    have hcs := hkc.out wr hnx.out
    have hcn := hkn.out wr hnx.out
    obtain ⟨i, hi⟩ : ∃ i, k * z = i := ⟨_, rfl⟩
    by_cases hlt : k < N
    · have hle : i + z ≤ M := by
        have : (k + 1) * z ≤ N * z := Nat.mul_le_mul_right _ hlt
        rw [Nat.add_mul, Nat.one_mul, hM.out, hi] at this
        exact this
      have hnxt : Box ((k + 1) * z = i + z) := ⟨by rw [Nat.add_mul, Nat.one_mul, hi]⟩
      rw [hi]
      have e1 : (i : Int) < (M : Int) := by omega
      have e2 : min (z : Int) ((M : Int) - (i : Int)) = (z : Int) := by omega
      have e3 : min (z : Int) ((M - i : Nat) : Int) = (z : Int) := by omega
      replace hi := Box.mk hi
      gi_wp2
      gi_quiet (fail)
      have hdr : Below wr.heap.size wr (wr.drewN nq) := Drawn.below ⟨nq, rfl⟩
      have hJ2 := hAb _ _ _ hJs ⟨hdr.os, hdr.tape, hdr.output, hdr.size, fun k hk _ => hdr.block k hk⟩
      have hnx2 := Box.mk (hnx.out.trans ((Pk.Chg.of_below hdr).mono (T := S) fun i hi e => absurd hi (by omega)) fun _ _ e => e)
      obtain ⟨w2, hw2⟩ : ∃ w2, wr.drewN nq = w2 := ⟨_, rfl⟩
      rw [hw2] at hJ2 hnx2 ⊢
      have hcs2 := hkc.out w2 hnx2.out
      obtain ⟨fn, tmps, assign, body, hy, hR⟩ := hY _ ⟨k, hlt⟩ w2 hJ2 (by rw [ckF_length N k (by omega)]; exact hlt)
      simp only [ckEnc, hi.out] at hy
      have e4 : i + z - i = z := by omega
      clear hdr hnx hJs hcs hcn hw2 hi
      gi_wp2
      refine hR.mono ?_
      clear hR
      rintro e W3 (⟨rfl, hJ3, hk3⟩ | ⟨rfl, hJx3⟩)
      · have hk4 := Box.mk (hnx2.out.trans hk3 fun _ _ h => h)
        have hcn3 := hkn.out W3 hk4.out
        have e5 : ((i + z : Nat) : Int) = (i : Int) + (z : Int) := by omega
        have hkN : k + 1 ≤ N := hlt
        clear hk3 hJ2 hnx2 hcs2
        gi_wp2
        go_roundw
        case rel => exact ⟨k + 1, hkN, by rw [hnxt.out, e5], by rw [ckF_succ N k hlt]; exact hJ3, hk4⟩
        case measure => simp [intOf]; omega
      · gi_wp2
        refine bodyPost_ret (results_none rfl _ _ _) rfl ?_
        exact ⟨⟨_, rfl⟩, .inr ⟨_, ⟨k + 1, hlt, by rw [ckF_succ N k hlt]⟩, hJx3⟩⟩
    · obtain rfl : k = N := by omega
      rw [hM.out]
      gi_wp2
      go_end0
      exact ⟨⟨_, rfl⟩, .inl ⟨_, rfl, hJs⟩⟩
theorem schunk_in (n : Nat) (a : Option Addr) (len cap z : Nat) (w : World) (hz : 1 ≤ z) :
    CallsIn Fence.wide n Tryd.prog 40 #[.slice a len cap, .int .i64 (z : Int)] w fun e w' => e = .returned (.func (.func 60) #[] #[.pointer (some ⟨w.heap.size, 0, none⟩), .pointer (some ⟨w.heap.size + 1, 0, none⟩)]) ∧ w' = (w.alloc (.cells #[.slice a len cap] 36)).alloc (.cells #[.int .i64 (z : Int)] 3) := by
  have hz1 : ¬ (z : Int) < 1 := by omega
  refine callsIn_of_wp Tryd.func40 rfl trivial ?_ rfl
  simp only [Tryd.ntmps40, List.size_toArray, List.length_cons, List.length_nil, Nat.reduceAdd, Nat.reduceSub, Array.replicate_succ, Array.replicate_zero, List.push_toArray, List.append_toArray, List.nil_append, List.cons_append]
  gi_wp2
  go_ret
  exact ⟨rfl, rfl⟩
theorem schunk_stops (n : Nat) (hn : 1 ≤ n) (Bs Bn b off cap z N : Nat) (S : Nat → Prop) (w : World) (hz : 1 ≤ z) (hcap : N * z ≤ cap) (htop : cap ≤ 9223372036854775807) (hz63 : N * z + z ≤ 9223372036854775807) (hBs : Bs < w.heap.size) (hBn : Bn < w.heap.size) (hBS : ¬ S Bs) (hBN : ¬ S Bn)
    (hc : w.cell? ⟨Bs, 0, none⟩ = some (.slice (some ⟨b, off, none⟩) (N * z) cap)) (hn0 : w.cell? ⟨Bn, 0, none⟩ = some (.int .i64 (z : Int))) :
    SeqStopsK Fence.wide n Tryd.prog 60 #[.pointer (some ⟨Bs, 0, none⟩), .pointer (some ⟨Bn, 0, none⟩)] (fun x : Fin N => ckEnc b off z x.val) (Pk.Chg S) (fun ys => ys = ckF N N) (fun pre => ∃ k, k ≤ N ∧ pre = ckF N k) N w := fun l J Jx W hW hAb _ hY h0 =>
  schunk1_in n hn l Bs Bn b off cap z N S hz hcap htop hz63 hBS hBN J Jx (fun s W1 W2 h hg => hAb s W1 W2 none h hg fun r e => by cases e) hY W (Nat.lt_of_lt_of_le hBs hW.size) (Nat.lt_of_lt_of_le hBn hW.size) ((hW.cell (p := ⟨Bs, 0, none⟩) hBs).trans hc) ((hW.cell (p := ⟨Bn, 0, none⟩) hBn).trans hn0) h0
end Go.Proofs.YtlkopllpadhnlaaDoor

namespace Go.Proofs.YtlkopllpadhnlaaDoor
open Go Go.RowKit Go.Shelf
attribute [local go_sem] Oper.semAt_some

/-- What Make answers. -/
def MakIs (l : List ByteArray) (L I W : Int) (w : World) (e : Ending) (w' : World) : Prop := e = .returned (.tuple #[.string (makT l L I W), .int .i64 (makE l L I W)]) ∧ Below w.heap.size w w'
theorem chg_put' {S : Nat → Prop} {B : Nat} (hS : ∀ k, B ≤ k → S k) (W : World) (l : Nat) (o' : Obj) (hl : B ≤ l) : Pk.Chg S W (W.putObj l o') := by
  have h := grownBy_putObj' W l o'
  exact ⟨h.os, h.tape, h.output, h.size, fun k hk hn => h.block k hk (fun e => hn (hS k (by cases e; exact hl)))⟩
theorem chg_own' {S : Nat → Prop} {w : World} {B : Nat} {β : Type} (hS : ∀ k, B ≤ k → S k) : OwnFrom B (fun (_ : β) W => Pk.Chg S w W) := fun _ X Y row hs hg hr => by
  refine ⟨hg.os.trans hs.os, hg.tape.trans hs.tape, hg.output.trans hs.output, Nat.le_trans hs.size hg.size, fun k hk hn => ?_⟩
  refine (hg.block k (Nat.lt_of_lt_of_le hk hs.size) (fun e => ?_)).trans (hs.block k hk hn)
  exact hn (hS k (hr k e.symm).1)
theorem keeps_chg' {S : Nat → Prop} {B : Nat} {W W' : World} (hc : Pk.Chg S W W') (hn : ∀ (k : Nat) (o : Obj), W.heap[k]? = some o → o.isCells = false → ¬ S k) : KeepsFrom B W W' :=
  ⟨hc.size, fun k o _ hk ho => (hc.block k (Array.getElem?_eq_some_iff.1 hk).1 (hn k o hk ho)).trans hk⟩
/-- Its row is a row of cells. -/
theorem BdAt.cellsRow {w : World} {b : Nat} {v : Value} {l : List UInt8} (h : BdAt w b v l) (k : Nat) (hk : v.ownBlock = some k) : ∃ cs t f, w.heap[k]? = some (.cells cs t f) := by
  obtain ⟨_, ⟨rfl, _⟩ | ⟨g, cap, cur, rfl, _, hg, _⟩⟩ := h.own
  · cases hk
  · cases hk; exact ⟨_, _, _, hg⟩
/-- In the loop over the parts: the builder has their roots. -/
def BdI (bb B : Nat) (acc : List UInt8) (W : World) : Prop := ∃ v, BdAt W bb v acc ∧ ∀ k, v.ownBlock = some k → B ≤ k
theorem bdI_own {β : Type} {bb B C : Nat} (acc : β → List UInt8) : OwnFrom C (fun (s : β) W => BdI bb B (acc s) W) := fun s X Y row ⟨v, hv, hk⟩ hg hr => by
  have hnr : ∀ k, (∃ cs t f, X.heap[k]? = some (.cells cs t f)) → row ≠ some k := fun k ⟨cs, t, f, h1⟩ e => by
    obtain ⟨_, o, h2, h3⟩ := hr k e
    rw [h1] at h2; cases h2; cases h3
  obtain ⟨p, hp, hb⟩ := hv.blk
  exact ⟨v, ⟨⟨p, hp, (hg.block bb hb.lt (fun e => hnr bb ⟨_, _, _, hb⟩ e.symm)).trans hb⟩, hv.own.kept fun k e => hg.block k (hv.own.lt k e) (fun e2 => hnr k (hv.cellsRow k e) e2.symm)⟩, hk⟩
/-- What the roots so far make. -/
def accM (l : List ByteArray) (L I : Nat) {N : Nat} (pre : List (Fin N)) : ByteArray := pre.foldl (fun a x => a ++ rootL (undT l L (4 * I + x.val))) ByteArray.empty
theorem accM_snoc (l : List ByteArray) (L I : Nat) {N : Nat} (pre : List (Fin N)) (x : Fin N) : accM l L I (pre ++ [x]) = accM l L I pre ++ rootL (undT l L (4 * I + x.val)) := by simp [accM]
theorem accM_ck (l : List ByteArray) (L I N : Nat) : ∀ k, k ≤ N → accM l L I (ckF N k) = makeT l L I k
  | 0, _ => rfl
  | k + 1, h => by rw [ckF_succ N k h, accM_snoc, accM_ck l L I N k (by omega)]; rfl
theorem accM_size {l : List ByteArray} {L I N : Nat} (h : ∀ x : Fin N, (rootL (undT l L (4 * I + x.val))).size = 32) : ∀ (k : Nat) (pre : List (Fin N)), pre.length = k → (accM l L I pre).size = 32 * k
  | 0, pre, e => by obtain rfl := List.length_eq_zero_iff.1 e; rfl
  | k + 1, pre, e => by
    rcases List.eq_nil_or_concat pre with rfl | ⟨q, x, rfl⟩
    · cases e
    · rw [List.concat_eq_append] at e ⊢
      rw [List.length_append] at e
      rw [accM_snoc, ByteArray.size_append, accM_size h k q (by simpa using e), h x]; omega
theorem PA.chg1 {T : Nat → Prop} {w w' : World} {blk off n c : Nat} {l : List ByteArray} (h : PA w (some ⟨blk, off, none⟩) n c l) (hc : Pk.Chg T w w') (hT : ¬ T blk) : PA w' (some ⟨blk, off, none⟩) n c l :=
  ⟨h.len, h.cap, h.top, fun h0 => by
    obtain ⟨b2, o2, e, hl, hcl⟩ := h.at_ h0
    cases e
    exact ⟨blk, off, rfl, Nat.lt_of_lt_of_le hl hc.size, fun i hi => by rw [chg_cell' hc hl hT]; exact hcl i hi⟩⟩
theorem KIs.chg' {S : Nat → Prop} {w w' : World} (h : KIs w) (hc : Pk.Chg S w w') (hn : ¬ S 4) : KIs w' := fun i hi => by
  rw [chg_cell' hc h.lt hn i]; exact h i hi
theorem makT_bad {l : List ByteArray} {L I W : Int} (h : makE l L I W ≠ 0) : makT l L I W = ByteArray.empty := by unfold makT; rw [if_neg h]
set_option maxHeartbeats 6400000 in
set_option maxRecDepth 100000 in
theorem pmake_in (l : List ByteArray) (L I W : Int) (n : Nat) (a : Option Addr) (c : Nat) (w : World) (hP : PA w a n c l) (h32 : All32 l) (hn : n ≤ 1024) (hK : KIs w) :
    CallsIn Fence.wide 9 Tryd.prog 16 #[.slice a n c, tv L I W] w (MakIs l L I W w) := by
  have hbx := bel_alloc w (.cells #[.int .i64 L, .int .i64 I, .int .i64 W] 23)
  have hG := good_any L I W (w.alloc (.cells #[.int .i64 L, .int .i64 I, .int .i64 W] 23))
  have hc := fun w1 h => Box3.of (x := .int .i64 L) (y := .int .i64 I) (z := .int .i64 W) (t := 23) (w := w) (w1 := w1) rfl h
  unfold tv at *
  unfold MakIs
  replace hc := Box.mk hc
  replace hbx := Box.mk hbx
  cases ho : okT L I W with
  | false =>
    have hE : makE l L I W = 1 := by unfold makE; rw [ho]; rfl
    have hT : makT l L I W = ByteArray.empty := makT_bad (by rw [hE]; decide)
    rw [hE, hT]
    rw [ho] at hG
    clear ho hE hT hP h32 hn hc hK
    refine callsIn_of_wp_marks Tryd.func16 rfl trivial ?_ rfl
    simp only [Tryd.ntmps16, List.size_toArray, List.length_cons, List.length_nil, Nat.reduceAdd, Nat.reduceSub, Array.replicate_succ, Array.replicate_zero, List.push_toArray, List.append_toArray, List.nil_append, List.cons_append]
    refine wpIn_wide.2 ?_
    go_wp2_with fail
    refine hG.mono ?_
    clear hG
    rintro e w1 ⟨rfl, hb1⟩
    replace hb1 := Box.mk hb1
    go_wp2_with fail
    refine ⟨_, results_tmp2 rfl _ _ _, rfl, ?_⟩
    exact mono_bel hbx.out hb1.out (Nat.le_refl _)
  | true =>
    rw [ho] at hG
    obtain ⟨L, I, W, rfl, rfl, rfl, hL30, hI, hW1, hW4⟩ := nats ho
    have hWd := fun w' => widest_any n L I w' (by omega) (by omega) hI
    have hE : makE l L I W = if max 0 (widN n L I) < (W : Int) then 5 else 0 := by unfold makE; rw [if_pos ho, hP.len, Int.toNat_natCast, Int.toNat_natCast]
    have hT : makT l L I W = if makE l L I W = 0 then makeT l L I W else ByteArray.empty := by unfold makT; rw [Int.toNat_natCast, Int.toNat_natCast, Int.toNat_natCast]
    have hin := fun h => wid_in (n := n) (L := L) (I := I) (W := W) h
    unfold tv at hWd
    obtain ⟨X, hX⟩ : ∃ X, widN n L I = X := ⟨_, rfl⟩
    rw [hX] at hE hWd hin
    obtain ⟨E, hEe⟩ : ∃ E, makE l L I W = E := ⟨_, rfl⟩
    rw [hEe] at hE hT ⊢
    obtain ⟨T, hTe⟩ : ∃ T, makT l L I W = T := ⟨_, rfl⟩
    rw [hTe] at hT ⊢
    by_cases hlt : X < (W : Int)
    · rw [if_pos (by omega)] at hE
      have hT2 : T = ByteArray.empty := by rw [hT, hE]; rfl
      replace hWd := Box.mk hWd
      replace hE := Box.mk hE
      replace hT2 := Box.mk hT2
      clear hin hX hEe hTe hT ho hP h32 hK hn
      refine callsIn_of_wp_marks Tryd.func16 rfl trivial ?_ rfl
      simp only [Tryd.ntmps16, List.size_toArray, List.length_cons, List.length_nil, Nat.reduceAdd, Nat.reduceSub, Array.replicate_succ, Array.replicate_zero, List.push_toArray, List.append_toArray, List.nil_append, List.cons_append]
      refine wpIn_wide.2 ?_
      go_wp2_with fail
      refine hG.mono ?_
      clear hG
      rintro e w1 ⟨rfl, hb1⟩
      have hc1 := Box.mk (hc.out w1 hb1)
      have hb1' := Box.mk (mono_bel hbx.out hb1 (Nat.le_refl _))
      clear hc hb1 hbx
      go_wp2_with fail
      refine region_quiet (fun w' => Below w1.heap.size w1 w') (by kernel_rfl) (by kernel_rfl) (dB _) ?_
      repeat (go_big_quiet_step (first | exact fun _ => rfl | rfl))
      refine quiet_val rfl (.int .i64 L) (fun w' hw' => by have h3 := (hc1.out w' hw').1; go_simp) ?_
      simp only [Act.put, List.setIfInBounds_toArray, List.set_cons_succ, List.set_cons_zero]
      repeat (go_big_quiet_step (first | exact fun _ => rfl | rfl))
      refine quiet_val rfl (.int .i64 I) (fun w' hw' => by have h3 := (hc1.out w' hw').2.1; go_simp) ?_
      simp only [Act.put, List.setIfInBounds_toArray, List.set_cons_succ, List.set_cons_zero]
      repeat (go_big_quiet_step (first | exact fun _ => rfl | rfl))
      refine quiet_call rfl (.agg #[.int .i64 L, .int .i64 I, .int .i64 X]) (fun w' hw' => (hWd.out w').mono fun e w2 h => ⟨h.1, mono_bel hw' h.2 (Nat.le_refl _)⟩) (fun w' _ => by go_simp) ?_
      simp only [Act.put, List.setIfInBounds_toArray, List.set_cons_succ, List.set_cons_zero]
      repeat (go_big_quiet_step (first | exact fun _ => rfl | rfl))
      refine quiet_val rfl (.int .i64 X) (fun w' hw' => by go_simp; first | done | rfl | (rw [run_field]; rfl)) ?_
      simp only [Act.put, List.setIfInBounds_toArray, List.set_cons_succ, List.set_cons_zero]
      repeat (go_big_quiet_step (first | exact fun _ => rfl | rfl))
      refine quiet_val rfl (.int .i64 W) (fun w' hw' => by have h3 := (hc1.out w' hw').2.2; go_simp) ?_
      simp only [Act.put, List.setIfInBounds_toArray, List.set_cons_succ, List.set_cons_zero]
      repeat (go_big_quiet_step (first | exact fun _ => rfl | rfl))
      refine wpQuiet_nil ?_
      intro w2 hw2
      have hb2 := Box.mk (mono_bel hb1'.out hw2 (Nat.le_refl _))
      clear hc1 hw2 hb1' hWd
      go_wp2_with fail
      refine ⟨_, results_tmp2 rfl _ _ _, ?_, hb2.out⟩
      rw [hE.out, hT2.out]; rfl
    · rw [if_neg (by omega)] at hE
      have hXW : (W : Int) ≤ X := by omega
      have hT2 : T = makeT l L I W := by rw [hT, hE]; rfl
      have hin2 := Box.mk (hin hXW)
      have hq := pow4_le L hL30
      have hlv := Box.mk (fun w' => leavesN_any L w' hL30)
      have h1n := (hin hXW 0 (by omega)).2.1
      have hWn := (hin hXW (W - 1) (by omega)).1
      have h0n := (hin hXW 0 (by omega)).2.2
      rw [show 4 * I + (W - 1) + 1 = 4 * I + W by omega] at hWn
      have hpos := Nat.pow_pos (n := L) (show 0 < 4 by decide)
      have hlen := hP.len
      have h32k := Box.mk (fun k hk => und_32 h32 L k (by rw [hlen]; exact hk))
      have hm32 := Box.mk (fun k hk => (makeT_32 h32 L I k (.inr (by rw [hlen]; exact hk))).1)
      have huf := Box.mk (fun k => und_fit h32.fit L k)
      obtain ⟨q, hqe⟩ : ∃ q, 4 ^ L = q := ⟨_, rfl⟩
      have hU := Box.mk (fun k => undT_q l L k q hqe)
      rw [hqe] at hq hin2 h1n hWn h0n hpos h32k hm32 hlv
      rw [Nat.add_mul] at hWn
      rw [Nat.add_zero] at h0n
      obtain ⟨s, hs⟩ : ∃ s, 4 * I * q = s := ⟨_, rfl⟩
      obtain ⟨m, hm⟩ : ∃ m, W * q = m := ⟨_, rfl⟩
      rw [hs, hm] at hWn
      have hs1 : (I : Int) * 4 * (q : Int) = (s : Int) := by rw [← hs]; push_cast; rw [Int.mul_comm (I : Int) 4]
      have hs2 : ((I : Int) * 4 + (W : Int)) * (q : Int) = ((s + m : Nat) : Int) := by rw [Int.add_mul, hs1, ← hm]; push_cast; rfl
      replace hWd := Box.mk hWd
      replace hE := Box.mk hE
      replace hT2 := Box.mk hT2
      replace hP := Box.mk hP
      replace hqe := Box.mk hqe
      replace hs := Box.mk hs
      replace hm := Box.mk hm
      replace hK := Box.mk hK
      obtain ⟨blk, off, hae, hbl, _⟩ := hP.out.at_ (Nat.lt_of_lt_of_le hpos h1n)
      subst hae
      have hcap := hP.out.cap
      have htop := hP.out.top
      clear hin hX hEe hTe hT ho hXW h0n hlen
      refine callsIn_of_wp_marks Tryd.func16 rfl trivial ?_ rfl
      simp only [Tryd.ntmps16, List.size_toArray, List.length_cons, List.length_nil, Nat.reduceAdd, Nat.reduceSub, Array.replicate_succ, Array.replicate_zero, List.push_toArray, List.append_toArray, List.nil_append, List.cons_append]
      refine wpIn_wide.2 ?_
      go_wp2_with fail
      refine hG.mono ?_
      clear hG
      rintro e w1 ⟨rfl, hb1⟩
      have hc1 := Box.mk (hc.out w1 hb1)
      have hb1' := Box.mk (mono_bel hbx.out hb1 (Nat.le_refl _))
      clear hc hb1 hbx
      go_wp2_with fail
      refine region_quiet (fun w' => Below w1.heap.size w1 w') (by kernel_rfl) (by kernel_rfl) (dB _) ?_
      repeat (go_big_quiet_step (first | exact fun _ => rfl | rfl))
      refine quiet_val rfl (.int .i64 L) (fun w' hw' => by have h3 := (hc1.out w' hw').1; go_simp) ?_
      simp only [Act.put, List.setIfInBounds_toArray, List.set_cons_succ, List.set_cons_zero]
      repeat (go_big_quiet_step (first | exact fun _ => rfl | rfl))
      refine quiet_val rfl (.int .i64 I) (fun w' hw' => by have h3 := (hc1.out w' hw').2.1; go_simp) ?_
      simp only [Act.put, List.setIfInBounds_toArray, List.set_cons_succ, List.set_cons_zero]
      repeat (go_big_quiet_step (first | exact fun _ => rfl | rfl))
      refine quiet_call rfl (.agg #[.int .i64 L, .int .i64 I, .int .i64 X]) (fun w' hw' => (hWd.out w').mono fun e w2 h => ⟨h.1, mono_bel hw' h.2 (Nat.le_refl _)⟩) (fun w' _ => by go_simp) ?_
      simp only [Act.put, List.setIfInBounds_toArray, List.set_cons_succ, List.set_cons_zero]
      repeat (go_big_quiet_step (first | exact fun _ => rfl | rfl))
      refine quiet_val rfl (.int .i64 X) (fun w' hw' => by go_simp; first | done | rfl | (rw [run_field]; rfl)) ?_
      simp only [Act.put, List.setIfInBounds_toArray, List.set_cons_succ, List.set_cons_zero]
      repeat (go_big_quiet_step (first | exact fun _ => rfl | rfl))
      refine quiet_val rfl (.int .i64 W) (fun w' hw' => by have h3 := (hc1.out w' hw').2.2; go_simp) ?_
      simp only [Act.put, List.setIfInBounds_toArray, List.set_cons_succ, List.set_cons_zero]
      repeat (go_big_quiet_step (first | exact fun _ => rfl | rfl))
      refine wpQuiet_nil ?_
      intro w2 hw2
      have hb2 := Box.mk (mono_bel hb1'.out hw2 (Nat.le_refl _))
      have hc2 := hc1.out.on hw2
      obtain ⟨c0, c1, c2⟩ := hc2.now
      have hlv2 := hlv.out w2
      clear hc1 hw2 hb1' hWd hlv
      go_wp2_with fail
      refine hlv2.mono ?_
      clear hlv2
      rintro e w3 ⟨rfl, hw3⟩
      subst hw3
      have hal := bel_alloc w2 (.cells #[.pointer none, .slice none 0 0] 79)
      obtain ⟨d0, d1, d2⟩ := (hc2.on hal).now
      have hm1 : 1 ≤ m := by rw [← hm.out]; exact Nat.mul_pos (by omega) hpos
      have hcs : ¬ c = s := by omega
      have hsm : s + m - s = m := by omega
      have hCk := (callsIn_wide (n := 9)).1 (schunk_in 9 (some ⟨blk, off + s, none⟩) m (c - s) q (w2.alloc (.cells #[.pointer none, .slice none 0 0] 79)) hpos)
      have hbd := BdAt.new w2
      replace hbd := Box.mk hbd
      replace hal := Box.mk (mono_bel hb2.out hal (Nat.le_refl _))
      clear hc2
      go_wp2_with fail
      refine hCk.mono ?_
      clear hCk d0 d1 d2 c0 c1 c2
      obtain ⟨bb, hbb⟩ : ∃ bb, w2.heap.size = bb := ⟨_, rfl⟩
      obtain ⟨wb, hwb⟩ : ∃ wb, w2.alloc (.cells #[.pointer none, .slice none 0 0] 79) = wb := ⟨_, rfl⟩
      have hsb : wb.heap.size = bb + 1 := by rw [← hwb, ← hbb]; simp
      rw [hwb, hbb] at hbd
      rw [hwb] at hal
      simp only [hwb, hbb, hsb]
      have hbw : w.heap.size ≤ bb := by rw [← hbb]; exact hb2.out.size
      clear hwb hbb
      rintro e w4 ⟨rfl, rfl⟩
      obtain ⟨wc, hwc⟩ : ∃ wc, (wb.alloc (.cells #[.slice (some ⟨blk, off + s, none⟩) m (c - s)] 36)).alloc (.cells #[.int .i64 (q : Int)] 3) = wc := ⟨_, rfl⟩
      have hsc : wc.heap.size = bb + 3 := by rw [← hwc]; simp [hsb]
      have hBc : Below wb.heap.size wb wc := by rw [← hwc]; exact mono_bel (bel_alloc wb _) (bel_alloc _ _) (Nat.le_refl _)
      have hcS : wc.cell? ⟨bb + 1, 0, none⟩ = some (.slice (some ⟨blk, off + s, none⟩) (W * q) (c - s)) := by
        have k1 := Pk.Blk.new wb [.slice (some ⟨blk, off + s, none⟩) m (c - s)] 36
        have k2 : Pk.Blk wc wb.heap.size [.slice (some ⟨blk, off + s, none⟩) m (c - s)] 36 := by rw [← hwc]; exact (Below.heap_alloc _ _ _ (by simp)).trans k1
        have := k2.cell 0
        rw [hsb] at this
        rw [this, hm.out]; rfl
      have hcN : wc.cell? ⟨bb + 2, 0, none⟩ = some (.int .i64 (q : Int)) := by
        have k2 : Pk.Blk wc (bb + 2) [.int .i64 (q : Int)] 3 := by
          have := Pk.Blk.new (wb.alloc (.cells #[.slice (some ⟨blk, off + s, none⟩) m (c - s)] 36)) [.int .i64 (q : Int)] 3
          rw [hwc, show (wb.alloc (.cells #[.slice (some ⟨blk, off + s, none⟩) m (c - s)] 36)).heap.size = bb + 2 by simp [hsb]] at this
          exact this
        exact k2.cell 0
      have hBW : Below w.heap.size w wc := mono_bel hal.out hBc (Nat.le_refl _)
      go_wp2_with fail
      try rw [hwc]
      refine (wpIn_wide (n := 9)).1 ?_
      refine wpIn_rangeFunc_ownG rfl (by omega) (gf := 60) (lb := #[.pointer (some ⟨bb + 1, 0, none⟩), .pointer (some ⟨bb + 2, 0, none⟩)]) rfl trivial (enters_of Tryd.func60 (by kernel_rfl) rfl)
        (schunk_stops 8 (by omega) (bb + 1) (bb + 2) blk (off + s) (c - s) q W (fun k => k = bb ∨ bb + 3 ≤ k) wc hpos (by rw [hm.out]; omega) (by omega) (by rw [hm.out]; omega) (by omega) (by omega) (by omega) (by omega) hcS hcN) (fun h k => h.trans k fun _ _ h => h) (fun Wd l _ o' hl _ _ _ => chg_put' (B := bb + 3) (fun k hk => .inr hk) Wd l o' (by rw [← hsc]; exact hl)) (Below.refl _ _) (fun _ => rfl)
        (fun pre Wd => BdI bb (bb + 3) (accM l L I pre).data.toList Wd ∧ Pk.Chg (fun k => k = bb ∨ bb + 3 ≤ k) wc Wd)
        (fun _ _ _ => False)
        ?own
        (fun _ _ _ _ _ hs _ _ => hs)
        ⟨⟨.slice none 0 0, hbd.out.chg (Pk.Chg.of_below hBc) (by omega) (fun k hk => by cases hk), fun k hk => by cases hk⟩, Pk.Chg.refl _ _⟩
        (fun x => { tmps := #[.slice (some ⟨blk, off, none⟩) n c, .agg #[.int .i64 (L : Int), .int .i64 (I : Int), .int .i64 (W : Int)], undef, .pointer (some ⟨w.heap.size, 0, none⟩), .string ⟨#[]⟩, .int .i64 0, .int .i64 (q : Int), .int .i64 ((I : Int) * 4), .pointer (some ⟨bb, 0, none⟩), .slice (some ⟨blk, off + s + x.val * q, none⟩) q q,
          .agg #[.int .i64 (L : Int), .int .i64 (I : Int), .int .i64 (W : Int)], .bool true, .bool false, .slice (some ⟨blk, off, none⟩) n c, .int .i64 (n : Int), .pointer (some ⟨w.heap.size, 0, none⟩), .int .i64 (L : Int), .pointer (some ⟨w.heap.size, 1, none⟩), .int .i64 (I : Int), .agg #[.int .i64 (L : Int), .int .i64 (I : Int), .int .i64 X], .int .i64 X, .pointer (some ⟨w.heap.size, 2, none⟩), .int .i64 (W : Int), .bool (decide (X < (W : Int))),
          .pointer (some ⟨w.heap.size, 0, none⟩), .int .i64 (L : Int), .int .i64 (q : Int), .pointer (some ⟨w.heap.size, 1, none⟩), .int .i64 (I : Int), .int .i64 ((I : Int) * 4), .slice (some ⟨blk, off, none⟩) n c, .int .i64 ((I : Int) * 4), .int .i64 (q : Int), .int .i64 (s : Int), .int .i64 ((I : Int) * 4), .pointer (some ⟨w.heap.size, 2, none⟩), .int .i64 (W : Int), .int .i64 ((I : Int) * 4 + (W : Int)), .int .i64 (q : Int), .int .i64 ((s : Int) + (m : Int)), .slice (some ⟨blk, off + s, none⟩) m (c - s), .int .i64 (q : Int),
          .func (.func 60) #[] #[.pointer (some ⟨bb + 1, 0, none⟩), .pointer (some ⟨bb + 2, 0, none⟩)], .slice (some ⟨blk, off + s + x.val * q, none⟩) q q, undef, undef, undef, undef], defers := [] }) ?assign ?body ?done ?stop
      case own => exact OwnFrom.and (bdI_own (fun pre : List (Fin W) => (accM l L I pre).data.toList)) (chg_own' (B := _) fun k hk => .inr (by rw [← hsc]; exact hk))
      case assign =>
        intro l x Wd K hK
        simp only [ckEnc]
        gi_wp2
        exact hK
      case stop =>
        rintro D' c' pre W _ _ h _
        exact h.elim
      case body =>
        rintro lp pre x Wd ⟨⟨v, hv, hvk⟩, hC⟩ hlt2
        have hKl := hK.out.lt
        have hPd := (hP.out.here hBW).chg1 hC (by show ¬ (blk = bb ∨ bb + 3 ≤ blk); omega)
        have hKW : KIs Wd := (hK.out.below hBW hKl).chg' hC (by show ¬ (_ = bb ∨ bb + 3 ≤ _); omega)
        obtain ⟨k1, _, k3⟩ := hin2.out x.val x.isLt
        have hsx : (4 * I + x.val) * q = s + x.val * q := by rw [Nat.add_mul, hs.out]
        have hux := hU.out (4 * I + x.val)
        have h32x := h32k.out (4 * I + x.val) k1
        rw [Nat.add_mul, Nat.one_mul, hsx] at k1
        rw [hsx] at hux
        have hPx := (hPd.drop (k := s + x.val * q) (by omega)).take (k := q) (by omega)
        rw [← hux] at hPx
        have hPy : PA Wd (some ⟨blk, off + s + x.val * q, none⟩) q q (undT l L (4 * I + x.val)) := ⟨hPx.len, Nat.le_refl _, by omega, fun h => by
          obtain ⟨b2, o2, e, hl, hcl⟩ := hPx.at_ h
          cases e
          exact ⟨blk, off + s + x.val * q, rfl, hl, fun i hi => by rw [Nat.add_assoc off s]; exact hcl i hi⟩⟩
        have hN := CallsIn.inRound lp ((callsIn_wide (n := 6)).2 (root_any q (undT l L (4 * I + x.val)) _ q Wd hPy hKW (huf.out _)))
        have hacc := accM_snoc l L I pre x
        have hasz := accM_size (l := l) (L := L) (I := I) (N := W) (fun y => h32k.out (4 * I + y.val) (hin2.out y.val y.isLt).1) pre.length pre rfl
        obtain ⟨R, hR⟩ : ∃ R, rootL (undT l L (4 * I + x.val)) = R := ⟨_, rfl⟩
        rw [hR] at hN hacc h32x
        have hWs := Box.mk (fun W1 (h : BdAt W1 bb v (accM l L I pre).data.toList) => CallsIn.inRound lp ((callsIn_wide (n := 6)).2 (wstr_any bb v _ R W1 h (by rw [Pk.data_len, hasz, h32x]; omega))))
        have hacc2 : (accM l L I (pre ++ [x])).data.toList = (accM l L I pre).data.toList ++ R.data.toList := by rw [hacc]; simp
        replace hN := Box.mk hN
        replace hC := Box.mk hC
        replace hv := Box.mk hv
        replace hvk := Box.mk hvk
        replace hacc2 := Box.mk hacc2
        clear hKl hPd hKW hPx hPy hux hR hacc hasz hlt2 k1 k3 hsx h32x
        gi_wp2
        refine ⟨trivial, hN.out.mono ?_⟩
        rintro e W1 ⟨rfl, hb1⟩
        clear hN
        obtain ⟨p0, hp0, hbk0⟩ := hv.out.blk
        have hbl1 := hbk0.lt
        have hv1 := hv.out.chg (Pk.Chg.of_below hb1) (by omega) fun k hk e => by have := hv.out.own.lt k hk; omega
        gi_wp2
        refine ⟨trivial, (hWs.out W1 hv1).mono ?_⟩
        rintro e W2 ⟨rfl, v', hp⟩
        have hch : Pk.Chg (fun k => k = bb ∨ v.ownBlock = some k ∨ Wd.heap.size ≤ k) Wd W2 := ((Pk.Chg.of_below hb1).mono fun _ _ h => .inr (.inr h)).trans hp.chg fun i _ e => e.elim .inl fun e => .inr (.inl e)
        have hs1 := hC.out.size
        have hs2 := hb1.size
        gi_wp2
        refine ⟨keeps_chg' hch (fun k o hk ho e => ?_), hch.mono (fun i _ hi => ?_), ⟨v', by rw [hacc2.out]; exact hp.at_, fun k hk => ?_⟩, hC.out.trans hch (fun i _ hi => ?_)⟩
        · rcases e with rfl | e | e
          · have h3 : Wd.heap[k]? = _ := hbk0
            rw [h3] at hk; cases hk; cases ho
          · obtain ⟨cs, t, f, h3⟩ := hv.out.cellsRow k e
            rw [h3] at hk; cases hk; cases ho
          · have := (Array.getElem?_eq_some_iff.1 hk).1; omega
        · rcases hi with h | h | h
          · exact .inl h
          · exact .inr (hvk.out i h)
          · exact .inr (by omega)
        · rcases hp.place k hk with h | h
          · exact hvk.out k h
          · omega
        · rcases hi with h | h | h
          · exact .inl h
          · exact .inr (hvk.out i h)
          · exact .inr (by omega)
      case done =>
        rintro D ys Wd hD rfl ⟨⟨v, hv, hvk⟩, hC⟩ hK2
        rw [accM_ck l L I W W (Nat.le_refl _)] at hv
        have hsz := hm32.out W (by rw [Nat.add_mul, hs.out, hm.out]; exact hWn)
        have hne : (makeT l L I W).data.toList ≠ [] := fun e => by
          have := congrArg List.length e
          rw [Pk.data_len, hsz] at this
          simp at this; omega
        have hSt := bstr_any bb v _ Wd hv hne
        have hcr := Box.mk hv.cellsRow
        replace hC := Box.mk hC
        replace hvk := Box.mk hvk
        replace hK2 := Box.mk hK2
        clear hv hsz hne
        go_wp2_with fail
        refine hSt.mono ?_
        clear hSt
        rintro e W3 ⟨rfl, hc3⟩
        have hDl := (Array.getElem?_eq_some_iff.1 hK2.out).1
        have hK3 : W3.heap[D]? = some (.deferred (some [])) := (hc3.block D hDl (fun e => by
          obtain ⟨cs, t, f, h3⟩ := hcr.out D e
          rw [hK2.out] at h3; cases h3)).trans hK2.out
        have hbe : Below w.heap.size w (W3.putObj D (.deferred none)) := by
          have h1 := hC.out.trans (hc3.mono (T := fun k => k = bb ∨ bb + 3 ≤ k) fun i _ e => .inr (hvk.out i e)) fun i _ e => e
          have h2 := h1.trans (chg_put' (B := bb + 3) (S := fun k => k = bb ∨ bb + 3 ≤ k) (fun k hk => .inr hk) W3 D (.deferred none) (by rw [← hsc]; exact hD)) fun _ _ h => h
          exact hBW.trans (h2.below (by omega) fun i hi => by omega)
        have hbx3 := Box.mk hbe
        have hK4 := Box.mk hK3
        clear hc3 hDl hbe hK2 hC hvk hK3
        go_wp2_with fail
        refine ⟨by simp, .inl ⟨_, _, rfl, run_takeDeferred hK4.out, ?_⟩⟩
        refine ⟨_, results_tmp2 rfl _ _ _, ?_, hbx3.out⟩
        rw [hT2.out, hE.out]
        rfl
end Go.Proofs.YtlkopllpadhnlaaDoor

namespace Go.Proofs.YtlkopllpadhnlaaDoor
open Go Go.RowKit

/-- The tiles of any number. -/
def allZ (n : Int) : List Tl := if 1 ≤ n ∧ n ≤ 1024 then allT n.toNat else []
theorem AllIs.none {ty : TypeId} {w : World} : AllIs ty w [] (.returned (.slice none 0 0)) w := ⟨_, rfl, ⟨Pk.Row.nil _ _ _, fun k hk => (by cases hk)⟩, Below.refl _ _⟩
set_option maxHeartbeats 1600000 in
set_option maxRecDepth 100000 in
theorem all_high (n : Int) (w : World) (hn : 1024 < n) :
    Calls Tryd.prog 14 #[.int .i64 n] w fun e w' => e = .returned (.slice none 0 0) ∧ w = w' := by
  go_enter Tryd.func14, Tryd.ntmps14
  go_wp2_with fail
  go_ret
  exact ⟨rfl, rfl⟩
set_option maxHeartbeats 1600000 in
set_option maxRecDepth 100000 in
theorem all_low (n : Int) (w : World) (hn : n < 1) :
    Calls Tryd.prog 14 #[.int .i64 n] w fun e w' => e = .returned (.slice none 0 0) ∧ w = w' := by
  have hN := nodes_zero n w
  have h2 : ¬ 1024 < n := by omega
  have h3 : ¬ 0 < n := by omega
  clear hn
  go_enter Tryd.func14, Tryd.ntmps14
  go_wp2_with fail
  go_loopw [3, 4] (fun v3 v4 wr => v3 = .slice none 0 0 ∧ v4 = .int .i64 0 ∧ wr = w) (fun _ _ _ => 0)
  case atStart => exact ⟨rfl, rfl, rfl⟩
  case round =>
    obtain ⟨rfl, rfl, rfl⟩ := hrel
    go_wp2_with fail
    refine hN.mono ?_
    rintro e w1 ⟨rfl, hw1⟩
    subst hw1
    go_wp2_with fail
    go_ret
    exact ⟨rfl, rfl⟩
theorem all_z (n : Int) (w : World) : Calls Tryd.prog 14 #[.int .i64 n] w (AllIs 23 w (allZ n)) := by
  unfold allZ
  split
  · next h =>
    obtain ⟨k, rfl⟩ : ∃ k : Nat, n = k := ⟨n.toNat, by omega⟩
    rw [Int.toNat_natCast]
    exact all_any k w (by omega) (by omega)
  · next h =>
    rcases Int.lt_or_le n 1 with h1 | h1
    · refine (all_low n w h1).mono fun e w' he => ?_
      rw [he.1, ← he.2]; exact AllIs.none
    · refine (all_high n w (by omega)).mono fun e w' he => ?_
      rw [he.1, ← he.2]; exact AllIs.none
theorem dall_z (n : Int) (w : World) : Calls Tryd.prog 19 #[.int .i64 n] w (AllIs 26 w (allZ n)) := by
  unfold allZ
  split
  · next h =>
    obtain ⟨k, rfl⟩ : ∃ k : Nat, n = k := ⟨n.toNat, by omega⟩
    rw [Int.toNat_natCast]
    exact dall_any k w (by omega) (by omega)
  · next h =>
    refine (dall_none n w (by omega)).mono fun e w' he => ?_
    rw [he.1, ← he.2]; exact AllIs.none
theorem allZ_len (n : Int) : (allZ n).length ≤ 6144 := by
  unfold allZ
  split
  · next h => have := allL_len (n := n.toNat) (by omega) 6; unfold allT; omega
  · exact Nat.zero_le _
set_option maxHeartbeats 1600000 in
set_option maxRecDepth 100000 in
/-- Two rows of the same tiles. -/
theorem same_tl (ts : List Tl) (v u : Value) (B C : Nat) (w : World) (hv : TlR 26 B w v ts) (hu : TlR 26 C w u ts) (hl : ts.length ≤ 100000) :
    Calls Tryd.prog 18 #[v, u] w fun e w' => e = .returned (.bool true) ∧ Below w.heap.size w w' := by
  obtain ⟨a, c, rfl⟩ := hv.row.shape
  obtain ⟨b, d, rfl⟩ := hu.row.shape
  obtain ⟨m, hm⟩ : ∃ m, ts.length = m := ⟨_, rfl⟩
  rw [hm] at hv hu hl ⊢
  have hB0 : Box (Below w.heap.size w w) := ⟨Below.refl _ _⟩
  replace hv := Box.mk hv
  replace hu := Box.mk hu
  replace hm := Box.mk hm
  go_enter Tryd.func18, Tryd.ntmps18
  go_wp2_with fail
  go_loopw [4, 5] (fun _ v5 wr => ∃ i : Nat, i ≤ m ∧ v5 = .int .i64 (i : Int) ∧ Box (Below w.heap.size w wr)) (fun _ v5 _ => m - (intOf v5).toNat)
  case atStart => exact ⟨0, by omega, rfl, hB0⟩
  case round =>
    clear hB0
    obtain ⟨i, hi, rfl, hB⟩ := hrel
    by_cases hlt : i < m
    · obtain ⟨gv, cv, ev, hgv⟩ := hv.out.row.some (by rw [hm.out]; omega)
      obtain ⟨gu, cu, eu, hgu⟩ := hu.out.row.some (by rw [hm.out]; omega)
      rw [hm.out] at ev eu
      cases ev
      cases eu
      obtain ⟨x0, x1, x2⟩ := (hv.out.here hB.out).cell hm.out hlt
      obtain ⟨y0, y1, y2⟩ := (hu.out.here hB.out).cell hm.out hlt
      obtain ⟨t, ht⟩ : ∃ t, ts[i]'(by rw [hm.out]; exact hlt) = t := ⟨_, rfl⟩
      rw [ht] at x0 x1 x2 y0 y1 y2
      clear ht
      go_wp2_with fail
      go_quiet (fail)
      have hB2 : Box (Below w.heap.size w (wr.drewN nq)) := ⟨hB.out.trans (Drawn.below ⟨nq, rfl⟩)⟩
      clear hB x0 x1 x2 y0 y1 y2
      go_wp2_with fail
      exact ⟨⟨i + 1, by omega, by go_num, hB2⟩, by simp [intOf]; omega⟩
    · obtain rfl : i = m := by omega
      go_wp2_with fail
      go_ret
      exact ⟨rfl, hB.out⟩
/-- In the law's loop: the program's tiles, those that were taken over, the tile that came in. -/
structure MkL (w0 : World) (vp : Value) (ts : List Tl) (b0 : Nat) (x y z : Value) (i : Nat) (v : Value) (w : World) : Prop where
  p : TlR 23 w0.heap.size w vp ts
  d : TlR 26 w0.heap.size w v (ts.take i)
  ap : ∀ q, v.ownBlock = some q → vp.ownBlock ≠ some q ∧ q ≠ b0
  bx : Pk.Blk w b0 [x, y, z] 23
  bel : Below w0.heap.size w0 w
theorem MkL.here {w0 w w' : World} {vp : Value} {ts : List Tl} {b0 : Nat} {x y z : Value} {i : Nat} {v : Value} (h : MkL w0 vp ts b0 x y z i v w) (hb : Below w.heap.size w w') : MkL w0 vp ts b0 x y z i v w' :=
  ⟨h.p.here hb, h.d.here hb, h.ap, (hb.block _ h.bx.lt).trans h.bx, mono_bel h.bel hb (Nat.le_refl _)⟩
theorem MkL.push {w0 w w' : World} {vp : Value} {ts : List Tl} {b0 : Nat} {x y z : Value} {i : Nat} {v v' : Value} {t : Tl} (h : MkL w0 vp ts b0 x y z i v w) (ht : ts[i]? = some t) (hp : Pk.PushedRow w 26 3 v ((ts.take i).length + 1) (tlsC (ts.take i) ++ tlC t) v' w') : MkL w0 vp ts b0 x y z (i + 1) v' w' := by
  have hbl := h.bx.lt
  refine ⟨⟨h.p.row.chg hp.chg fun k hk e => (h.ap k e).1 hk, h.p.own⟩, ⟨?_, fun k hk => ?_⟩, fun q hq => ?_, hp.chg.blk h.bx fun e => (h.ap _ e).2 rfl, h.bel.trans ((hp.chg.mono (T := fun i => w0.heap.size ≤ i) fun i _ e => h.d.own i e).below h.bel.size fun _ h => h)⟩
  · rw [List.take_add_one, ht, show (some t).toList = [t] from rfl, tlsC_snoc, List.length_append]; exact hp.row
  · rcases hp.place k hk with h1 | h1
    · exact h.d.own k h1
    · exact Nat.le_trans h.bel.size h1
  · rcases hp.place q hq with h1 | h1
    · exact h.ap q h1
    · exact ⟨fun e => by have := h.p.row.lt q e; omega, by omega⟩
set_option maxHeartbeats 6400000 in
set_option maxRecDepth 100000 in
theorem law_makes (n : Int) (k0 : Nat) (L I Z : Int) (W : World) (hL : Ld W.heap.size W) (h0 : k0 < 256) :
    Calls Tryd.prog 4 #[.int .i64 n, .int .u8 (k0 : Int), .agg #[.int .i64 L, .int .i64 I, .int .i64 Z]] W fun e W' => e = .returned (.bool true) ∧ Below W.heap.size W W' := by
  obtain ⟨k, hk⟩ : ∃ k, k0 % 100 = k := ⟨_, rfl⟩
  have hk1 : (k0 : Int) % 100 = (k : Int) := by omega
  have hkl : k < 100 := by omega
  have hal := bel_alloc W (.cells #[.int .i64 L, .int .i64 I, .int .i64 Z] 23)
  have hbx := Pk.Blk.new W [.int .i64 L, .int .i64 I, .int .i64 Z] 23
  have hR := reads_any W.heap.size _ (hL.here hal (Nat.le_refl _)) hal.size
  have hLv := Box.mk (fun w => leavesT_any k w (by omega))
  have hAl := Box.mk (fun w => all_z n w)
  have hDa := Box.mk (fun w => dall_z n w)
  have hMl := allZ_len n
  unfold LeavesT at hLv
  unfold AllIs at hAl hDa
  obtain ⟨ts, hts⟩ : ∃ ts, allZ n = ts := ⟨_, rfl⟩
  rw [hts] at hAl hDa hMl
  replace hL := Box.mk hL
  obtain ⟨i0, hi0, hz0, hz1, hz2⟩ := info_parts info_tld
  have hH := Box.mk (And.intro hi0 (And.intro hz0 (And.intro hz1 hz2)))
  clear hi0 hz0 hz1 hz2 hk hts
  replace hbx := Box.mk hbx
  replace hal := Box.mk hal
  go_enter Tryd.func4, Tryd.ntmps4
  go_wp2_with fail
  refine hR.mono ?_
  clear hR
  rintro e w1 ⟨rfl, hb1⟩
  replace hbx := Box.mk ((hb1.block _ hbx.out.lt).trans hbx.out)
  replace hal := Box.mk (mono_bel hal.out hb1 (Nat.le_refl _))
  clear hb1
  go_wp2_with fail
  refine (hAl.out w1).mono ?_
  clear hAl
  rintro e w2 ⟨vt, rfl, hTl, hb2⟩
  obtain ⟨at_, ct, rfl⟩ := hTl.row.shape
  obtain ⟨m, hm⟩ : ∃ m, ts.length = m := ⟨_, rfl⟩
  rw [hm] at hTl hMl ⊢
  have hS0 : Box (MkL W (.slice at_ m ct) ts W.heap.size (.int .i64 L) (.int .i64 I) (.int .i64 Z) 0 (.slice none 0 0) w2) := ⟨⟨⟨hTl.row, fun k hk => Nat.le_trans hal.out.size (hTl.own k hk)⟩, ⟨Pk.Row.nil _ _ _, fun k hk => (by cases hk)⟩, fun q hq => (by cases hq), (hb2.block _ (Pk.Blk.lt hbx.out)).trans hbx.out, mono_bel hal.out hb2 (Nat.le_refl _)⟩⟩
  replace hm := Box.mk hm
  clear hTl hb2 hal hbx
  go_wp2_with fail
  go_loopw [7, 9, 20] (fun v7 _ v20 wr => ∃ i : Nat, i ≤ m ∧ v20 = .int .i64 (i : Int) ∧ Box (MkL W (.slice at_ m ct) ts W.heap.size (.int .i64 L) (.int .i64 I) (.int .i64 Z) i v7 wr)) (fun _ _ v20 _ => m - (intOf v20).toNat)
  case atStart => exact ⟨0, by omega, rfl, hS0⟩
  case round =>
    clear hS0
    obtain ⟨i, hi, rfl, hA⟩ := hrel
    obtain ⟨a2, c2, rfl⟩ := hA.out.d.row.shape
    have hlen : (ts.take i).length = i := by rw [List.length_take, hm.out]; omega
    by_cases hlt : i < m
    · obtain ⟨gt, cc, ev, hgt⟩ := hA.out.p.row.some (by rw [hm.out]; omega)
      rw [hm.out] at ev
      cases ev
      obtain ⟨x0, x1, x2⟩ := hA.out.p.cell hm.out hlt
      obtain ⟨t, ht⟩ : ∃ t, ts[i]'(by rw [hm.out]; exact hlt) = t := ⟨_, rfl⟩
      rw [ht] at x0 x1 x2
      have hti : Box (ts[i]? = some t) := ⟨by rw [← ht]; exact List.getElem?_eq_getElem _⟩
      obtain ⟨wa, hwa⟩ : ∃ wa, (wr.alloc (.cells #[.int .i64 (t.L : Int), .int .i64 (t.I : Int), .int .i64 (t.W : Int)] 23)).alloc (.cells #[.int .i64 (t.L : Int), .int .i64 (t.I : Int), .int .i64 (t.W : Int)] 26) = wa := ⟨_, rfl⟩
      have hP := Pk.Blk.new (wr.alloc (.cells #[.int .i64 (t.L : Int), .int .i64 (t.I : Int), .int .i64 (t.W : Int)] 23)) [.int .i64 (t.L : Int), .int .i64 (t.I : Int), .int .i64 (t.W : Int)] 26
      rw [hwa, show (wr.alloc (.cells #[.int .i64 (t.L : Int), .int .i64 (t.I : Int), .int .i64 (t.W : Int)] 23)).heap.size = wr.heap.size + 1 by simp] at hP
      have hA2 : MkL W (.slice (some ⟨gt, 0, none⟩) m ct) ts W.heap.size (.int .i64 L) (.int .i64 I) (.int .i64 Z) i (.slice a2 (ts.take i).length c2) wa := by
        rw [← hwa]; exact hA.out.here (mono_bel (bel_alloc wr _) (bel_alloc _ _) (Nat.le_refl _))
      have hrow := hA2.d.row
      rw [hlen] at hA2 hrow ⊢
      replace hA2 := Box.mk hA2
      replace hrow := Box.mk hrow
      replace hP := Box.mk hP
      replace hwa := Box.mk hwa
      replace hlen := Box.mk hlen
      clear ht hA
      go_wp2_with (at_builtin; refine Pk.wpList_pushR rfl (.tmp 24) (.tmp 32) 33 26 rfl i0 (.agg #[.int .i64 0, .int .i64 0, .int .i64 0]) 3 24 Tryd.underlying33 hH.out.1 hH.out.2.1 hH.out.2.2.1 hH.out.2.2.2 rfl (by decide) _ i (tlsC (ts.take i)) rfl (by rw [hwa.out]; exact hrow.out) ⟨wr.heap.size + 1, 0, none⟩ 1 1 (tlC t) rfl rfl (fun j u hj => by rw [show (⟨wr.heap.size + 1, 0, none⟩ : Addr).add j = ⟨wr.heap.size + 1, j, none⟩ by unfold Addr.add; split <;> simp_all]; rw [hwa.out, Pk.Blk.cell hP.out j]; exact hj) (fun u hu => by simp only [tlC, List.mem_cons, List.not_mem_nil, or_false] at hu; rcases hu with rfl | rfl | rfl <;> rfl) (by unfold maxLen; omega) (by omega) ?_)
      rintro v2 w3 hp
      rw [hwa.out] at hp
      replace hp : Pk.PushedRow wa 26 3 (.slice a2 i c2) ((ts.take i).length + 1) (tlsC (ts.take i) ++ tlC t) v2 w3 := by rw [hlen.out]; exact hp
      have hA3 := Box.mk (hA2.out.push hti.out hp)
      clear hp hA2 hP hrow x0 x1 x2
      go_wp2_with fail
      exact ⟨⟨i + 1, by omega, by go_num, hA3⟩, by simp [intOf]; omega⟩
    · obtain rfl : i = m := by omega
      rw [hlen] at hA ⊢
      clear hlen
      go_wp2_with fail
      refine (hLv.out wr).mono ?_
      clear hLv
      rintro e w3 ⟨v3, l, rfl, hll, h32, hT, hb3⟩
      obtain ⟨a, c, rfl⟩ := hT.shape
      rw [hll] at hT ⊢
      have hA3 := hA.out.here hb3
      have hPA := hT.pa hll
      have hMk := (callsIn_wide (n := 9)).1 (pmake_in l L I Z k a c w3 hPA h32 (by omega) (hL.out.here hA3.bel (Nat.le_refl _)).kis)
      unfold MakIs at hMk
      have hDm := Box.mk (fun w' (hb : Below w3.heap.size w3 w') => dmake_any l L I Z k a c w' (hPA.here hb) (All32.fit h32) (by omega))
      obtain ⟨T, hT⟩ : ∃ T, makT l L I Z = T := ⟨_, rfl⟩
      obtain ⟨E, hE⟩ : ∃ E, makE l L I Z = E := ⟨_, rfl⟩
      rw [hT, hE] at hMk
      simp only [hT, hE] at hDm
      unfold tv at hMk hDm
      have b0 := hA3.bx.cell 0
      have b1 := hA3.bx.cell 1
      have b2 := hA3.bx.cell 2
      simp only [List.getElem?_cons_zero, List.getElem?_cons_succ] at b0 b1 b2
      have hcap := hPA.cap
      have htop := hPA.top
      replace hA3 := Box.mk hA3
      have htq : (T.toList == T.toList) = true := by simp
      clear hA hb3 hPA h32 hT hE
      go_wp2_with fail
      refine hMk.mono ?_
      clear hMk b0 b1 b2
      rintro e w4 ⟨rfl, hb4⟩
      have hDm2 := hDm.out w4 hb4
      replace hA3 := Box.mk (hA3.out.here hb4)
      have b0 := hA3.out.bx.cell 0
      have b1 := hA3.out.bx.cell 1
      have b2 := hA3.out.bx.cell 2
      simp only [List.getElem?_cons_zero, List.getElem?_cons_succ] at b0 b1 b2
      clear hDm hb4
      go_wp2_with fail
      refine hDm2.mono ?_
      clear hDm2 b0 b1 b2
      rintro e w5 ⟨rfl, hb5⟩
      replace hA3 := Box.mk (hA3.out.here hb5)
      clear hb5
      go_wp2_with fail
      refine (hDa.out w5).mono ?_
      clear hDa
      rintro e w6 ⟨v6, rfl, hT6, hb6⟩
      replace hA3 := Box.mk (hA3.out.here hb6)
      have hd := hA3.out.d
      rw [List.take_of_length_le (by rw [hm.out]; exact Nat.le_refl _)] at hd
      have hSm := same_tl ts _ v6 _ _ w6 hd hT6 (by rw [hm.out]; omega)
      clear hd hT6 hb6
      go_wp2_with fail
      refine hSm.mono ?_
      clear hSm
      rintro e w7 ⟨rfl, hb7⟩
      have hfin := Box.mk (hA3.out.here hb7).bel
      clear hb7 hA3
      go_wp2_with fail
      go_ret
      exact ⟨rfl, hfin.out⟩
end Go.Proofs.YtlkopllpadhnlaaDoor

namespace Go.Proofs.YtlkopllpadhnlaaDoor
open Go Go.ChangeShapes Go.WideShapes Go.ChangeAt Go.RowKit Go.ChangeMaps

set_option maxRecDepth 100000 in
theorem tl_open {H : Type} {enc : TypeId × Value → H} {W : World} {base : Nat} {v : Value} {d : DataW H} {p : List MemPlace}
    (hv : Value.okWide Tryd.prog W .any base 23 v) (h : DataW.Trod enc Tryd.prog W 0 (fun _ => true) true 23 v d p) :
    ∃ L I Z : Int, v = .agg #[.int .i64 L, .int .i64 I, .int .i64 Z] := by
  obtain ⟨cs, rfl, hcs⟩ := okWide_struct Tryd.underlying23 hv
  obtain ⟨fuel, hf⟩ := h
  obtain ⟨xs, m, _, hx, hl, hn, hF⟩ := DataW.trod_struct Tryd.underlying23 hf
  rw [show Tryd.prog.cellsOf 23 = 3 by kernel_rfl] at hl
  have hc : ∃ L I Z : Int, (Value.agg cs).cells.toList = [.int .i64 L, .int .i64 I, .int .i64 Z] := by
    generalize (Value.agg cs).cells.toList = ds at *
    match ds, hl, xs, hn with
    | [c0, c1, c2], _, [x0, x1, x2], _ =>
      have g0 : DataW.trod enc Tryd.prog W 0 (fun _ => true) true m 3 (([c0, c1, c2].drop 0).take (Tryd.prog.cellsOf 3)) = some x0 := hF 0 _ rfl
      have g1 : DataW.trod enc Tryd.prog W 0 (fun _ => true) true m 3 (([c0, c1, c2].drop 1).take (Tryd.prog.cellsOf 3)) = some x1 := hF 1 _ rfl
      have g2 : DataW.trod enc Tryd.prog W 0 (fun _ => true) true m 3 (([c0, c1, c2].drop 2).take (Tryd.prog.cellsOf 3)) = some x2 := hF 2 _ rfl
      have z3 : Tryd.prog.cellsOf 3 = 1 := by kernel_rfl
      rw [z3] at g0 g1 g2
      obtain ⟨a, e0, y0, w0⟩ := DataW.trod_int Tryd.underlying3 g0
      obtain ⟨b, e1, y1, w1⟩ := DataW.trod_int Tryd.underlying3 g1
      obtain ⟨c, e2, y2, w2⟩ := DataW.trod_int Tryd.underlying3 g2
      simp [List.take, List.drop] at e0 e1 e2
      subst e0 e1 e2
      exact ⟨a, b, c, rfl⟩
  obtain ⟨L, I, Z, hc⟩ := hc
  refine ⟨L, I, Z, ?_⟩
  congr 1
  apply Array.ext'
  simpa [Value.cells] using hc
end Go.Proofs.YtlkopllpadhnlaaDoor
