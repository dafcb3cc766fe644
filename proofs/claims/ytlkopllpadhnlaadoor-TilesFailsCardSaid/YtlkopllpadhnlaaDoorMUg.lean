/- The document's All: the tiles of a number. | TilesRoots: out of a list's tiles alone come its root and every proof; no other files are asked for. | Files of which one tile isn't there, or is too long: what is asked of them, told with what stands beside. | TilesFails: where a tile isn't there, or is too long, what asks for it is refused. -/
import Derived.Test.YtlkopllpadhnlaaDoorMUe
import Derived.Test.YtlkopllpadhnlaaDoorTiY
namespace Go.Proofs.YtlkopllpadhnlaaDoor
open Go Go.RowKit

theorem info_tld : (Tryd.prog.info? 26).map (fun i => (i.zero, i.size, i.bytes)) = some (some (.agg #[.int .i64 0, .int .i64 0, .int .i64 0]), 3, 24) := by kernel_rfl
set_option maxHeartbeats 6400000 in
set_option maxRecDepth 100000 in
theorem dall_any (n : Nat) (w : World) (hn1 : 1 ≤ n) (hn : n ≤ 1024) :
    Calls Tryd.prog 19 #[.int .i64 (n : Int)] w (AllIs 26 w (allT n)) := by
  have hS0 : Box (AlAt 26 w w (.slice none 0 0) (allL n 0)) := ⟨⟨⟨Pk.Row.nil _ _ _, fun k hk => (by cases hk)⟩, Below.refl _ _⟩⟩
  have hN := Box.mk (fun L w' => dnodes_any n L w')
  have hWd := Box.mk (fun L I w' => dwidth_any n L I w' (by omega))
  obtain ⟨i0, hi0, hz0, hz1, hz2⟩ := info_parts info_tld
  have hH := Box.mk (And.intro hi0 (And.intro hz0 (And.intro hz1 hz2)))
  clear hi0 hz0 hz1 hz2
  go_enter Tryd.func19, Tryd.ntmps19
  go_wp2_with fail
  go_loopw [3, 4, 5] (fun v3 v4 _ wr => ∃ L : Nat, L ≤ 6 ∧ v4 = .int .i64 (L : Int) ∧ Box (AlAt 26 w wr v3 (allL n L))) (fun _ v4 _ _ => 6 - (intOf v4).toNat)
  case atStart => exact ⟨0, by omega, rfl, hS0⟩
  case round =>
    clear hS0
    obtain ⟨L, hL, rfl, hA⟩ := hrel
    obtain ⟨a, c, rfl⟩ := hA.out.r.row.shape
    have hN1 := hN.out L wr (by omega)
    have hnl := nodN_le n L
    by_cases h0 : nodN n L = 0
    · rw [h0] at hN1
      have he := Box.mk (allL_end n hn (6 - L) L (by omega) h0)
      clear hN hWd hH
      go_wp2_with fail
      refine hN1.mono ?_
      rintro e w1 ⟨rfl, hw1⟩
      subst hw1
      clear hN1
      go_wp2_with fail
      go_ret
      exact ⟨_, rfl, by rw [← he.out]; exact hA.out.r, hA.out.bel⟩
    · have hL6 : L < 6 := by
        rcases Nat.lt_or_ge L 6 with h | h
        · exact h
        · obtain rfl : L = 6 := by omega
          exact absurd (nod6 hn) h0
      obtain ⟨N, hNe⟩ : ∃ N, nodN n L = N := ⟨_, rfl⟩
      rw [hNe] at hN1 hnl h0
      have hal := Box.mk (allL_len hn L)
      have hpos : (0 : Int) < (N : Int) := by omega
      go_wp2_with fail
      refine hN1.mono ?_
      rintro e w1 ⟨rfl, hw1⟩
      subst hw1
      clear hN1
      go_wp2_with fail
      obtain ⟨C, hC⟩ : ∃ C, (N + 3) / 4 = C := ⟨_, rfl⟩
      have hlv := Box.mk (show lvlI n L C = lvlT n L by unfold lvlI lvlT; rw [hNe, hC])
      have hwp : Box (∀ I, I < C → ((widN n L I).toNat : Int) = max 0 (widN n L I) ∧ 0 < (widN n L I).toNat) := ⟨fun I hI => by
        have : widN n L I = min 4 ((nodN n L : Int) - (I : Int) * 4) := rfl
        rw [hNe] at this
        omega⟩
      have hw0 : Box (max 0 (widN n L C) = 0) := ⟨by
        have : widN n L C = min 4 ((nodN n L : Int) - (C : Int) * 4) := rfl
        rw [hNe] at this
        omega⟩
      have hS1 : Box (AlAt 26 w wr (.slice a (allL n L).length c) (allL n L ++ lvlI n L 0)) := ⟨by rw [show lvlI n L 0 = [] from rfl, List.append_nil]; exact hA.out⟩
      have hC256 : C ≤ 256 := by omega
      have hp2 : 0 < N := by omega
      simp only [hp2, decide_true]
      clear hN hA hpos hNe hC hp2
      go_loopw [3, 5] (fun v3 v5 wr => ∃ I : Nat, I ≤ C ∧ v5 = .int .i64 (I : Int) ∧ Box (AlAt 26 w wr v3 (allL n L ++ lvlI n L I))) (fun _ v5 _ => C - (intOf v5).toNat)
      case atStart => exact ⟨0, by omega, rfl, hS1⟩
      case round =>
        clear hS1
        obtain ⟨I, hI, rfl, hA⟩ := hrel
        obtain ⟨a2, c2, rfl⟩ := hA.out.r.row.shape
        have hlI : (lvlI n L I).length = I := by unfold lvlI; simp
        obtain ⟨m, hm⟩ : ∃ m, (allL n L ++ lvlI n L I).length = m := ⟨_, rfl⟩
        have hm2 : m ≤ 8000 := by rw [← hm, List.length_append, hlI]; have := hal.out; omega
        have hW := hWd.out L I wr (by omega) (by omega)
        by_cases hlt : I < C
        · rw [← (hwp.out I hlt).1] at hW
          have hW0 := (hwp.out I hlt).2
          obtain ⟨W, hWe⟩ : ∃ W, (widN n L I).toNat = W := ⟨_, rfl⟩
          have hnx := Box.mk (lvlI_next n L I)
          rw [hWe] at hW hnx hW0
          rw [hm] at hA ⊢
          have hii : (0 : Int) < (W : Int) := by omega
          replace hm := Box.mk hm
          clear hWe hlI
          go_wp2_with fail
          refine hW.mono ?_
          rintro e w1 ⟨rfl, hw1⟩
          subst hw1
          go_wp2_with fail
          refine hW.mono ?_
          clear hW
          rintro e w1 ⟨rfl, hw1⟩
          subst hw1
          have hal1 := bel_alloc wr (.cells #[.int .i64 (L : Int), .int .i64 (I : Int), .int .i64 (W : Int)] 26)
          have hA2 := Box.mk (show AlAt 26 w _ (.slice a2 m c2) (allL n L ++ lvlI n L I) from ⟨hA.out.r.here hal1, mono_bel hA.out.bel hal1 (Nat.le_refl _)⟩)
          have hP := Box.mk (Pk.Blk.new wr [.int .i64 (L : Int), .int .i64 (I : Int), .int .i64 (W : Int)] 26)
          have hrow := hA2.out.r.row
          rw [hm.out] at hrow
          replace hrow := Box.mk hrow
          clear hal1 hA
          go_wp2_with (at_builtin; refine Pk.wpList_pushR rfl (.tmp 26) (.tmp 34) 33 26 rfl i0 (.agg #[.int .i64 0, .int .i64 0, .int .i64 0]) 3 24 Tryd.underlying33 hH.out.1 hH.out.2.1 hH.out.2.2.1 hH.out.2.2.2 rfl (by decide) _ m (tlsC (allL n L ++ lvlI n L I)) rfl hrow.out ⟨wr.heap.size, 0, none⟩ 1 1 (tlC ⟨L, I, W⟩) rfl rfl (fun j u hj => by rw [show (⟨wr.heap.size, 0, none⟩ : Addr).add j = ⟨wr.heap.size, j, none⟩ by unfold Addr.add; split <;> simp_all]; rw [Pk.Blk.cell hP.out j]; exact hj) (fun u hu => by simp only [tlC, List.mem_cons, List.not_mem_nil, or_false] at hu; rcases hu with rfl | rfl | rfl <;> rfl) (by unfold maxLen; omega) (by omega) ?_)
          rintro v2 w2 hp
          replace hp : Pk.PushedRow (wr.alloc (.cells #[.int .i64 (L : Int), .int .i64 (I : Int), .int .i64 (W : Int)] 26)) 26 3 (.slice a2 m c2) ((allL n L ++ lvlI n L I).length + 1) (tlsC (allL n L ++ lvlI n L I) ++ tlC ⟨L, I, W⟩) v2 w2 := by rw [hm.out]; exact hp
          have hA3 : Box (AlAt 26 w w2 v2 (allL n L ++ lvlI n L (I + 1))) := ⟨by rw [hnx.out, ← List.append_assoc]; exact hA2.out.push hp⟩
          clear hp hA2 hP hrow
          go_wp2_with fail
          exact ⟨⟨I + 1, by omega, by go_num, hA3⟩, by simp [intOf]; omega⟩
        · obtain rfl : I = C := by omega
          rw [hw0.out] at hW
          have hA4 : Box (AlAt 26 w wr (.slice a2 (allL n L ++ lvlI n L I).length c2) (allL n (L + 1))) := ⟨by rw [allL_next, ← hlv.out]; exact hA.out⟩
          rw [hm] at hA4 ⊢
          clear hA hm hw0 hwp
          go_wp2_with fail
          refine hW.mono ?_
          clear hW
          rintro e w1 ⟨rfl, hw1⟩
          subst hw1
          go_wp2_with fail
          exact ⟨⟨L + 1, by omega, by go_num, hA4⟩, by simp [intOf]; omega⟩
set_option maxHeartbeats 1600000 in
set_option maxRecDepth 100000 in
theorem dall_none (n : Int) (w : World) (hn : n < 1 ∨ 1024 < n) :
    Calls Tryd.prog 19 #[.int .i64 n] w fun e w' => e = .returned (.slice none 0 0) ∧ w = w' := by
  by_cases h1 : n < 1
  · clear hn
    go_enter Tryd.func19, Tryd.ntmps19
    go_wp2_with fail
    go_ret
    exact ⟨rfl, rfl⟩
  · have h2 : 1024 < n := by omega
    clear hn
    go_enter Tryd.func19, Tryd.ntmps19
    go_wp2_with fail
    go_ret
    exact ⟨rfl, rfl⟩
end Go.Proofs.YtlkopllpadhnlaaDoor

namespace Go.Proofs.YtlkopllpadhnlaaDoor
open Go Go.RowKit

theorem texB_self' (l : List ByteArray) : texB l l = true := by simp [texB]
theorem incL_len' (l : List ByteArray) (z : Int) (hl : l.length ≤ 9223372036854775807) : (incL l z).length ≤ 63 := by
  unfold incL
  split
  · exact placeL_63 hl _
  · exact Nat.zero_le _
theorem conL_len' (l : List ByteArray) (z : Int) (hl : l.length ≤ 9223372036854775807) : (conL l z).length ≤ 64 := by
  unfold conL
  split
  · exact partL_64 hl _ _
  · exact Nat.zero_le _
theorem tlsC_at : ∀ (ts : List Tl) (i : Nat) (t : Tl), ts[i]? = some t → ∀ j, j < 3 → (tlsC ts)[i * 3 + j]? = (tlC t)[j]?
  | [], i, t, h, _, _ => by simp at h
  | q :: ts, 0, t, h, j, hj => by
    obtain rfl : q = t := by simpa using h
    rw [tlsC, List.flatMap_cons, Nat.zero_mul, Nat.zero_add, List.getElem?_append_left (by simpa [tlC] using hj)]
  | q :: ts, i + 1, t, h, j, hj => by
    rw [tlsC, List.flatMap_cons, List.getElem?_append_right (by simp [tlC]; omega), ← tlsC, show (tlC q).length = 3 from rfl, show (i + 1) * 3 + j - 3 = i * 3 + j by omega]
    exact tlsC_at ts i t (by simpa using h) j hj
theorem tln_pos {n : Nat} {t : Tl} (h : TlN n t) : 1 ≤ n := by
  obtain ⟨⟨_, _, h3, _⟩, h5⟩ := h
  have h6 : widN n t.L t.I = min 4 ((nodN n t.L : Int) - (t.I : Int) * 4) := rfl
  have h7 := nodN_le n t.L
  omega
theorem tln_all {n : Nat} {t : Tl} (h : TlN n t) : t ∈ allT n := by
  obtain ⟨⟨h1, _, h3, _⟩, h5⟩ := h
  have h6 : widN n t.L t.I = min 4 ((nodN n t.L : Int) - (t.I : Int) * 4) := rfl
  unfold allT allL
  refine List.mem_flatMap.2 ⟨t.L, List.mem_range.2 (by omega), ?_⟩
  unfold lvlT
  refine List.mem_map.2 ⟨t.I, List.mem_range.2 (by omega), ?_⟩
  obtain ⟨L, I, W⟩ := t
  simp only [Tl.mk.injEq, true_and]
  simp only at h5
  omega
theorem allT_ok {n : Nat} (hn : n ≤ 1024) {t : Tl} (h : t ∈ allT n) : TlN n t := by
  unfold allT allL at h
  obtain ⟨L, hL, h2⟩ := List.mem_flatMap.1 h
  rw [List.mem_range] at hL
  unfold lvlT at h2
  obtain ⟨I, hI, rfl⟩ := List.mem_map.1 h2
  rw [List.mem_range] at hI
  have h6 : widN n L I = min 4 ((nodN n L : Int) - (I : Int) * 4) := rfl
  have h7 := nodN_le n L
  exact ⟨⟨show L ≤ 5 by omega, show I ≤ 255 by omega, show 1 ≤ (widN n L I).toNat by omega, show (widN n L I).toNat ≤ 4 by omega⟩, show (((widN n L I).toNat : Nat) : Int) = widN n L I by omega⟩
theorem TlR.cell {ty : TypeId} {B : Nat} {w : World} {gt c m : Nat} {ts : List Tl} (h : TlR ty B w (.slice (some ⟨gt, 0, none⟩) m c) ts) (hm : ts.length = m) {i : Nat} (hi : i < m) :
    w.cell? ⟨gt, i * 3, none⟩ = some (.int .i64 ((ts[i]'(by omega)).L : Int)) ∧ w.cell? ⟨gt, i * 3 + 1, none⟩ = some (.int .i64 ((ts[i]'(by omega)).I : Int)) ∧ w.cell? ⟨gt, i * 3 + 2, none⟩ = some (.int .i64 ((ts[i]'(by omega)).W : Int)) := by
  subst hm
  have h0 : ts[i]? = some ts[i] := List.getElem?_eq_getElem hi
  exact ⟨h.row.cells (i * 3) _ (tlsC_at ts i _ h0 0 (by decide)), h.row.cells (i * 3 + 1) _ (tlsC_at ts i _ h0 1 (by decide)), h.row.cells (i * 3 + 2) _ (tlsC_at ts i _ h0 2 (by decide))⟩
/-- What was asked for, kept in a row. -/
structure AskQ (w0 w : World) (va : Value) (P : List ByteArray) : Prop where
  tx : TxR w0.heap.size w va P
  bel : Below w0.heap.size w0 w
theorem AskQ.here {w0 w w' : World} {va : Value} {P : List ByteArray} (h : AskQ w0 w va P) (hb : Below w.heap.size w w') : AskQ w0 w' va P := ⟨h.tx.here hb, mono_bel h.bel hb (Nat.le_refl _)⟩
theorem GS.askq {w0 w1 w : World} {a : Option Addr} {n c : Nat} {l : List ByteArray} {gone long : ByteArray} {g : Nat} {rs : List (Value × List ByteArray)} {A : List Tl} (h : GS w1 a n c l gone long g rs A w) (hb : Below w0.heap.size w0 w1) :
    ∃ va, w.cell? ⟨g, 3, none⟩ = some va ∧ AskQ w0 w va (A.map tlp) := by
  obtain ⟨F, ⟨⟨va, hbk, hT, _⟩, _, _⟩, _⟩ := h.fl
  exact ⟨va, hbk.cell 3, hT.base hb.size, mono_bel hb h.bel (Nat.le_refl _)⟩
set_option maxHeartbeats 12800000 in
set_option maxRecDepth 100000 in
theorem law_roots (n0 : Nat) (z y : Int) (W : World) (hL : Ld W.heap.size W) (h0 : n0 < 256) :
    Calls Tryd.prog 5 #[.int .u8 (n0 : Int), .int .i64 z, .int .i64 y] W fun e W' => e = .returned (.bool true) ∧ Below W.heap.size W W' := by
  have hR := reads_any W.heap.size W hL (Nat.le_refl _)
  obtain ⟨k, hk⟩ : ∃ k, n0 % 90 = k := ⟨_, rfl⟩
  have hk1 : (n0 : Int) % 90 = (k : Int) := by omega
  have hkl : k < 90 := by omega
  have hLv := Box.mk (fun w => leavesT_any k w (by omega))
  unfold LeavesT at hLv
  replace hL := Box.mk hL
  clear hk
  go_enter Tryd.func5, Tryd.ntmps5
  go_wp2_with fail
  refine hR.mono ?_
  clear hR
  rintro e w1 ⟨rfl, hb1⟩
  have hL1 := hL.out.here hb1 (Nat.le_refl _)
  replace hb1 := Box.mk hb1
  go_wp2_with fail
  refine (hLv.out w1).mono ?_
  clear hLv
  rintro e w2 ⟨v, l, rfl, hll, h32, hT, hb2⟩
  obtain ⟨a, c, rfl⟩ := hT.shape
  rw [hll] at hT ⊢
  have h32' : All32 l := h32
  have htk : l.take k = l := List.take_of_length_le (by rw [hll]; exact Nat.le_refl _)
  have hS0 := gs_new (hL1.up hb1.out.size) hT hll hb2 ByteArray.empty ByteArray.empty
  obtain ⟨W1, hW1⟩ : ∃ W1, w2.alloc (.cells #[.slice a k c, .string ByteArray.empty, .string ByteArray.empty, .slice none 0 0] 46) = W1 := ⟨_, rfl⟩
  obtain ⟨g, hg⟩ : ∃ g, w2.heap.size = g := ⟨_, rfl⟩
  rw [hW1, hg] at hS0
  have hR1 := groot k W1 hS0 h32' (by omega) hll (Nat.le_refl _) (by simp)
  rw [htk] at hR1
  unfold flV at hR1
  replace hW1 := Box.mk hW1
  replace hg := Box.mk hg
  replace h32 := Box.mk h32'
  replace hll := Box.mk hll
  replace htk := Box.mk htk
  have hl63 : Box (l.length ≤ 9223372036854775807) := ⟨by rw [hll.out]; omega⟩
  have hcap := (hT.pa hll.out).cap
  have htop := (hT.pa hll.out).top
  clear hT hL1 hb2 h32' hS0
  go_wp2_with fail
  rw [show w2.alloc (.cells #[.slice a k c, .string ⟨#[]⟩, .string ⟨#[]⟩, .slice none 0 0] 46) = W1 from hW1.out, hg.out]
  refine hR1.mono ?_
  clear hR1 hW1 hg
  rintro e w3 ⟨A1, rfl, hS1, hA1, hA1l⟩
  have hR2 := ginc k z w3 hS1 h32.out (by omega) hll.out (Nat.le_refl _) (by simp; omega)
  have s1 := incL_len' l z hl63.out
  have s2 := conL_len' l y hl63.out
  rw [htk.out] at hR2
  obtain ⟨r1, hr1⟩ : ∃ r, rootL l = r := ⟨_, rfl⟩
  obtain ⟨I, hI⟩ : ∃ I, incL l z = I := ⟨_, rfl⟩
  obtain ⟨J, hJ⟩ : ∃ J, incE l z = J := ⟨_, rfl⟩
  obtain ⟨C, hC⟩ : ∃ C, conL l y = C := ⟨_, rfl⟩
  obtain ⟨D, hD⟩ : ∃ D, conE l y = D := ⟨_, rfl⟩
  rw [hI] at s1
  rw [hC] at s2
  rw [hI, hJ] at hR2
  rw [hr1]
  unfold flV at hR2
  replace hA1 := Box.mk hA1
  replace hr1 := Box.mk hr1
  replace hI := Box.mk hI
  replace hJ := Box.mk hJ
  replace hC := Box.mk hC
  replace hD := Box.mk hD
  clear hS1
  go_wp2_with fail
  refine hR2.mono ?_
  clear hR2
  rintro e w4 ⟨A2, v3, rfl, hS2, hA2, hA2l⟩
  have h1 := rinclusion_any k l z a c w4 hS2.pa h32.out.fit
  rw [hI.out, hJ.out] at h1
  unfold RowsE at h1
  replace hS2 := Box.mk hS2
  replace hA2 := Box.mk hA2
  go_wp2_with fail
  refine h1.mono ?_
  clear h1
  rintro e w5 ⟨v4, rfl, hT4, hb5⟩
  have hS3 := hS2.out.add hb5 hT4
  have hR2 := gcon k y w5 hS3 h32.out (by omega) hll.out (Nat.le_refl _) (by simp; omega)
  rw [htk.out, hC.out, hD.out] at hR2
  unfold flV at hR2
  clear hS2 hT4 hb5 hS3
  go_wp2_with fail
  refine hR2.mono ?_
  clear hR2
  rintro e w6 ⟨A3, v5, rfl, hS4, hA3, hA3l⟩
  have h1 := rconsistency_any k l y a c w6 hS4.pa h32.out.fit
  rw [hC.out, hD.out] at h1
  unfold RowsE at h1
  replace hS4 := Box.mk hS4
  replace hA3 := Box.mk hA3
  go_wp2_with fail
  refine h1.mono ?_
  clear h1
  rintro e w7 ⟨v6, rfl, hT6, hb7⟩
  have hS5 := Box.mk (hS4.out.add hb7 hT6)
  have h1 := rroot_any k l a c w7 hS5.out.pa h32.out.fit
  rw [hr1.out] at h1
  have hrq : (r1.toList == r1.toList) = true := by simp
  clear hS4 hT6 hb7 hr1 hI hJ hC hD h32 htk hl63
  go_wp2_with fail
  refine h1.mono ?_
  clear h1
  rintro e w8 ⟨rfl, hb8⟩
  have hS6 := Box.mk (hS5.out.here hb8)
  have h1 := same_any v3 v4 I I w8 (hS6.out.rows (v3, I) (by simp)).parts (hS6.out.rows (v4, I) (by simp)).parts (by unfold maxLen; omega)
  rw [texB_self'] at h1
  clear hS5 hb8
  go_wp2_with fail
  refine h1.mono ?_
  clear h1
  rintro e w9 ⟨rfl, hb9⟩
  have hS7 := Box.mk (hS6.out.here hb9)
  have h1 := same_any v5 v6 C C w9 (hS7.out.rows (v5, C) (by simp)).parts (hS7.out.rows (v6, C) (by simp)).parts (by unfold maxLen; omega)
  rw [texB_self'] at h1
  clear hS6 hb9
  go_wp2_with fail
  refine h1.mono ?_
  clear h1
  rintro e w10 ⟨rfl, hb10⟩
  have hS8 := hS7.out.here hb10
  obtain ⟨va, c3, hQ⟩ := hS8.askq hb1.out
  have hAll : ∀ t ∈ [] ++ A1 ++ A2 ++ A3, TlN k t := fun t ht => by
    rcases List.mem_append.1 ht with ht | ht
    · rcases List.mem_append.1 ht with ht | ht
      · exact hA1.out t (by simpa using ht)
      · exact hA2.out t ht
    · exact hA3.out t ht
  have hPl : (([] ++ A1 ++ A2 ++ A3).map tlp).length ≤ 20000 := by simp; omega
  obtain ⟨A, hA⟩ : ∃ A, [] ++ A1 ++ A2 ++ A3 = A := ⟨_, rfl⟩
  rw [hA] at hQ hAll hPl
  obtain ⟨aq, cq, rfl⟩ := hQ.tx.shape
  obtain ⟨m, hm⟩ : ∃ m, (A.map tlp).length = m := ⟨_, rfl⟩
  rw [hm] at c3 hQ hPl
  replace hm := Box.mk hm
  replace hAll := Box.mk hAll
  replace hQ := Box.mk hQ
  clear hb10 hS7 hS8 hA hA1 hA2 hA3 hA1l hA2l hA3l hb1
  go_wp2_with fail
  go_loopw [21, 22, 105] (fun _ _ v105 wr => ∃ i : Nat, i ≤ m ∧ v105 = .int .i64 (i : Int) ∧ Box (AskQ W wr (.slice aq m cq) (A.map tlp))) (fun _ _ v105 _ => m - (intOf v105).toNat)
  case atStart => exact ⟨0, by omega, rfl, hQ⟩
  case round =>
    clear hQ c3
    obtain ⟨i, hi, rfl, hQ⟩ := hrel
    by_cases hlt : i < m
    · have hAl : i < A.length := by have := hm.out; simp at this; omega
      obtain ⟨ga, off, rfl, hga, hcl⟩ := (hQ.out.tx.pa hm.out).at_ (by omega)
      have e1 := hcl i hlt
      obtain ⟨t, ht⟩ : ∃ t, A[i]'hAl = t := ⟨_, rfl⟩
      have hgd : (A.map tlp).getD i ByteArray.empty = tlp t := by simp [List.getD, hAl, ht]
      rw [hgd] at e1
      have htN : TlN k t := hAll.out t (by rw [← ht]; exact List.getElem_mem _)
      have hk0 := tln_pos htN
      have hmem := Box.mk (tln_all htN)
      have hD := dall_any k wr hk0 (by omega)
      unfold AllIs at hD
      obtain ⟨p, hp⟩ : ∃ p, tlp t = p := ⟨_, rfl⟩
      rw [hp] at e1
      replace hp := Box.mk hp
      clear hcl hgd htN ht hAl
      go_wp2_with fail
      refine hD.mono ?_
      clear hD
      rintro e w11 ⟨vt, rfl, hTl, hb11⟩
      have hM0 : 0 < (allT k).length := List.length_pos_of_mem hmem.out
      obtain ⟨gt, ct, rfl, hgt⟩ := hTl.row.some hM0
      obtain ⟨M, hM⟩ : ∃ M, (allT k).length = M := ⟨_, rfl⟩
      have hQ1 := Box.mk (hQ.out.here hb11)
      have hM8 : M ≤ 8000 := by rw [← hM]; have := allL_len (n := k) (by omega) 6; unfold allT; omega
      rw [hM] at hTl ⊢
      have hLd := Box.mk (fun w' (h : AskQ W w' (.slice (some ⟨ga, off, none⟩) m cq) (A.map tlp)) => hL.out.here h.bel (Nat.le_refl _))
      replace hTl := Box.mk hTl
      replace hM := Box.mk hM
      clear e1 hQ hb11 hga
      go_wp2_with fail
      have hI0 : Box (∀ q, q < 0 → ∀ u, (allT k)[q]? = some u → tlp u = p → false = true) := ⟨fun q hq => by omega⟩
      go_loopw [22, 112] (fun v22 v112 wr => ∃ (j : Nat) (fb : Bool), j ≤ M ∧ v112 = .int .i64 (j : Int) ∧ v22 = .bool fb ∧ Box (∀ q, q < j → ∀ u, (allT k)[q]? = some u → tlp u = p → fb = true) ∧ Box (TlR 26 0 wr (.slice (some ⟨gt, 0, none⟩) M ct) (allT k)) ∧ Box (AskQ W wr (.slice (some ⟨ga, off, none⟩) m cq) (A.map tlp))) (fun _ v112 _ => M - (intOf v112).toNat)
      case atStart => exact ⟨0, false, by omega, rfl, rfl, hI0, ⟨⟨hTl.out.row, fun k hk => Nat.zero_le _⟩⟩, hQ1⟩
      case round =>
        clear hTl hQ1 hI0 hgt
        obtain ⟨j, fb, hj, rfl, rfl, hfb, hTl, hQ⟩ := hrel
        by_cases hjl : j < M
        · obtain ⟨e0, e1, e2⟩ := hTl.out.cell hM.out hjl
          obtain ⟨u, hu⟩ : ∃ u, (allT k)[j]'(by rw [hM.out]; exact hjl) = u := ⟨_, rfl⟩
          rw [hu] at e0 e1 e2
          have huj : Box ((allT k)[j]? = some u) := ⟨by rw [← hu]; exact List.getElem?_eq_getElem _⟩
          have hgt : gt < wr.heap.size := hTl.out.row.lt gt rfl
          have hD := fun w' (hb : Below wr.heap.size wr w') => dpath_any u.L u.I u.W W.heap.size w' (hLd.out w' (hQ.out.here hb)) (hQ.out.here hb).bel.size
          have hpu : pathT u.L u.I u.W = tlp u := rfl
          simp only [hpu] at hD
          obtain ⟨pu, hpu2⟩ : ∃ pu, tlp u = pu := ⟨_, rfl⟩
          rw [hpu2] at hD
          unfold tv at hD
          replace hpu2 := Box.mk hpu2
          replace hD := Box.mk hD
          clear hu hpu
          cases fb
          · go_wp2_with fail
            refine (hD.out _ (bel_alloc _ _)).mono ?_
            clear hD e0 e1 e2
            rintro e w12 ⟨rfl, hb12⟩
            have hb13 := mono_bel (bel_alloc wr _) hb12 (Nat.le_refl _)
            have hTl2 := Box.mk (hTl.out.here hb13)
            have hQ2 := Box.mk (hQ.out.here hb13)
            have hpp : Box (∀ q, q < j + 1 → ∀ u, (allT k)[q]? = some u → tlp u = p → (pu.toList == p.toList) = true) := ⟨fun q hq u2 e he => by
              by_cases hqj : q < j
              · exact absurd (hfb.out q hqj u2 e he) (by decide)
              · obtain rfl : q = j := by omega
                rw [huj.out] at e
                cases e
                rw [← he, ← hpu2.out]
                simp⟩
            clear hb12 hb13 hTl hQ hfb huj hpu2
            go_wp2_with fail
            exact ⟨⟨j + 1, _, by omega, by go_num, rfl, hpp, hTl2, hQ2⟩, by simp [intOf]; omega⟩
          · have hTl2 := fun w' (hb : Below wr.heap.size wr w') => Box.mk (hTl.out.here hb)
            have hQ2 := fun w' (hb : Below wr.heap.size wr w') => Box.mk (hQ.out.here hb)
            clear hD
            go_wp2_with fail
            exact ⟨⟨j + 1, true, by omega, by go_num, rfl, ⟨fun q _ u _ _ => rfl⟩, hTl2 _ (bel_alloc _ _), hQ2 _ (bel_alloc _ _)⟩, by simp [intOf]; omega⟩
        · obtain rfl : j = M := by omega
          have hft : fb = true := by
            obtain ⟨q, hq, e⟩ := List.getElem_of_mem hmem.out
            exact hfb.out q (by rw [← hM.out]; exact hq) t (by rw [List.getElem?_eq_getElem hq, e]) hp.out
          subst hft
          clear hfb hM hp hmem hm hM0
          go_wp2_with fail
          exact ⟨⟨i + 1, by omega, by go_num, hQ⟩, by simp [intOf]; omega⟩
    · obtain rfl : i = m := by omega
      clear hm
      go_wp2_with fail
      go_ret
      exact ⟨rfl, hQ.out.bel⟩
end Go.Proofs.YtlkopllpadhnlaaDoor

namespace Go.Proofs.YtlkopllpadhnlaaDoor
open Go Go.RowKit

/-- The one path that fails, in which way. -/
def Kind (path gone long : ByteArray) (want : Int) : Prop := (gone = path ∧ long = ByteArray.empty ∧ want = 15) ∨ (gone = ByteArray.empty ∧ long = path ∧ want = 3)
theorem Kind.ne {path gone long : ByteArray} {want : Int} (h : Kind path gone long want) : want ≠ 0 := by
  rcases h with ⟨_, _, rfl⟩ | ⟨_, _, rfl⟩ <;> decide
theorem fil_bad {l : List ByteArray} {path gone long : ByteArray} {want : Int} {n : Nat} {t : Tl} (hK : Kind path gone long want) (h : All32 l) (hn : n ≤ l.length) (ht : TlN n t) (hp : tlp t = path) : (askT (filT l gone long t) t).2 = want := by
  have hne := tlp_ne ht.1
  rcases hK with ⟨rfl, rfl, rfl⟩ | ⟨rfl, rfl, rfl⟩
  · unfold filT askT
    rw [if_pos hp]
    rfl
  · subst hp
    obtain ⟨hok, hw⟩ := ht
    have hle : nodN n t.L ≤ nodN l.length t.L := Nat.div_le_div_right hn
    have hw2 : (t.W : Int) ≤ widN l.length t.L t.I := by unfold widN at hw ⊢; omega
    have hw1 := hok.2.2.1
    have hin := (wid_in (n := l.length) (L := t.L) (I := t.I) (W := t.W) hw2 (t.W - 1) (by omega)).1
    rw [show 4 * t.I + (t.W - 1) + 1 = 4 * t.I + t.W by omega] at hin
    obtain ⟨h1, _⟩ := makeT_32 h t.L t.I t.W (.inr hin)
    have hE : makE l t.L t.I t.W = 0 := by
      unfold makE
      rw [if_pos (tlok hok), Int.toNat_natCast, Int.toNat_natCast, if_neg (by omega)]
    have hT : makT l t.L t.I t.W = makeT l t.L t.I t.W := by
      unfold makT
      rw [if_pos hE, Int.toNat_natCast, Int.toNat_natCast, Int.toNat_natCast]
    have hF : filT l ByteArray.empty (tlp t) t = (makeT l t.L t.I t.W ++ ⟨#[120]⟩, 0) := by
      unfold filT
      rw [if_neg hne, if_pos rfl, hE, hT]
    unfold askT
    rw [hF, if_neg (by simp), if_neg (by rw [ByteArray.size_append, h1]; show ¬ 32 * t.W + 1 = 32 * t.W; omega)]
theorem Kind.off {path gone long : ByteArray} {want : Int} (h : Kind path gone long want) {n : Nat} {t : Tl} (ht : TlN n t) (hp : tlp t ≠ path) : tlp t ≠ gone ∧ tlp t ≠ long := by
  have hne := tlp_ne ht.1
  rcases h with ⟨rfl, rfl, rfl⟩ | ⟨rfl, rfl, rfl⟩
  · exact ⟨hp, hne⟩
  · exact ⟨hne, hp⟩
/-- What comes of the tiles that were asked for: nothing amiss, or the one that is was met. -/
theorem fil_ends {B : Nat} {a : Option Addr} {n c k g : Nat} {l : List ByteArray} {path gone long : ByteArray} {want : Int} {hF : Fit l} {hn : n ≤ 100000} {A : List Tl} (hK : Kind path gone long want) (h32 : All32 l) (hk : k ≤ l.length) (hA : ∀ t ∈ A, TlN k t)
    (hG : errA (filS B a n c l gone long g hF hn) A = 0 → ∀ t ∈ A, ((filS B a n c l gone long g hF hn).ans t).2 = 0) :
    (errA (filS B a n c l gone long g hF hn) A = 0 ∧ path ∉ A.map tlp ∧ Tells (filS B a n c l gone long g hF hn) A (nodG l)) ∨ (errA (filS B a n c l gone long g hF hn) A = want ∧ path ∈ A.map tlp) := by
  by_cases hE : errA (filS B a n c l gone long g hF hn) A = 0
  · refine .inl ⟨hE, fun hm => ?_, fun t ht j hj => ?_⟩
    · obtain ⟨t, ht, e⟩ := List.mem_map.1 hm
      have h1 : (askT (filT l gone long t) t).2 = 0 := hG hE t ht
      rw [fil_bad hK h32 hk (hA t ht) e] at h1
      exact hK.ne h1
    · have hp : tlp t ≠ path := fun e => by
        have h1 : (askT (filT l gone long t) t).2 = 0 := hG hE t ht
        rw [fil_bad hK h32 hk (hA t ht) e] at h1
        exact hK.ne h1
      have h2 := good_ans h32 hk (hA t ht) (hK.off (hA t ht) hp).1 (hK.off (hA t ht) hp).2
      show hshT (askT (filT l gone long t) t).1 j = _
      rw [h2.1]
      exact h2.2 j hj
  · right
    rcases List.eq_nil_or_concat A with h0 | ⟨A1, t, h1⟩
    · subst h0; exact absurd rfl hE
    · have h1 : A = A1 ++ [t] := by simpa using h1
      subst h1
      rw [errA_snoc] at hE ⊢
      have ht := hA t (by simp)
      by_cases hp : tlp t = path
      · exact ⟨fil_bad hK h32 hk ht hp, by simp [hp]⟩
      · have h2 := good_ans h32 hk ht (hK.off ht hp).1 (hK.off ht hp).2
        exact absurd (show (askT (filT l gone long t) t).2 = 0 by rw [h2.1]) hE
theorem FlAt.reset {B : Nat} {a : Option Addr} {n c : Nat} {l : List ByteArray} {gone long : ByteArray} {g : Nat} {w : World} {F : Nat → Prop} {A : List ByteArray} (h : FlAt B a n c l gone long g w F A) :
    ∃ F', FlAt B a n c l gone long g (w.setCell ⟨g, 3, none⟩ (.slice none 0 0)) F' [] ∧ ∀ k, F' k → F k := by
  obtain ⟨va, hb, hR, hF, hap⟩ := h.ex
  have hs : Pk.Chg (fun k => k = g) w (w.setCell ⟨g, 3, none⟩ (.slice none 0 0)) := (Pk.Chg.refl (fun k => k = g) w).setCell (p := ⟨g, 3, none⟩) rfl _
  refine ⟨fun k => k = g ∨ (Value.slice none 0 0).ownBlock = some k ∨ ∃ ad, a = some ad ∧ ad.block = k, ⟨⟨.slice none 0 0, hb.setCell 3 _, TxR.nil _ _, fun k => Iff.rfl, fun ad e => ⟨(hap ad e).1, Nat.lt_of_lt_of_le (hap ad e).2.1 hs.size, (hap ad e).2.2.1, fun h1 => (by cases h1)⟩⟩, h.pa.chg hs fun ad e => (hap ad e).2.2.1, h.gB⟩, fun k hk => (hF k).2 ?_⟩
  rcases hk with h1 | h1 | h1
  · exact .inl h1
  · cases h1
  · exact .inr (.inr h1)
/-- Files in block g, since wr; F: their blocks then. -/
structure FM (B : Nat) (a : Option Addr) (n c : Nat) (l : List ByteArray) (gone long : ByteArray) (g : Nat) (F : Nat → Prop) (wr : World) (A : List Tl) (w : World) : Prop where
  ex : ∃ Fs, FlAt B a n c l gone long g w Fs (A.map tlp) ∧ ∀ q, Fs q → F q ∨ wr.heap.size ≤ q
  chg : Pk.Chg F wr w
  ld : Ld B w
  sz : B ≤ w.heap.size
  gF : F g
section
variable {B : Nat} {a : Option Addr} {n c : Nat} {l : List ByteArray} {path gone long : ByteArray} {want : Int} {g : Nat} {F : Nat → Prop} {wr w w' : World} {A : List Tl}
theorem FM.here (h : FM B a n c l gone long g F wr A w) (hb : Below w.heap.size w w') : FM B a n c l gone long g F wr A w' := by
  obtain ⟨Fs, h1, h2⟩ := h.ex
  exact ⟨⟨Fs, h1.here hb, h2⟩, h.chg.trans (Pk.Chg.of_below hb) fun i hi e => by have := h.chg.size; omega, h.ld.here hb h.sz, Nat.le_trans h.sz hb.size, h.gF⟩
theorem FM.pa (h : FM B a n c l gone long g F wr A w) : PA w a n c l := by obtain ⟨F, h1, _⟩ := h.ex; exact h1.pa
theorem FM.reset (h : FM B a n c l gone long g F wr A w) : FM B a n c l gone long g F wr [] (w.setCell ⟨g, 3, none⟩ (.slice none 0 0)) := by
  obtain ⟨Fs, h1, h2⟩ := h.ex
  obtain ⟨F', h3, h4⟩ := h1.reset
  have hs : Pk.Chg (fun k => k = g) w (w.setCell ⟨g, 3, none⟩ (.slice none 0 0)) := (Pk.Chg.refl (fun k => k = g) w).setCell (p := ⟨g, 3, none⟩) rfl _
  exact ⟨⟨F', h3, fun q hq => h2 q (h4 q hq)⟩, h.chg.trans hs fun i hi e => by rw [e]; exact h.gF, h.ld.below (hs.below h.sz fun i hi => by rw [hi]; exact h1.gB), Nat.le_trans h.sz hs.size, h.gF⟩
/-- The block of the files: its cells; what was asked for. -/
theorem FM.blk (h : FM B a n c l gone long g F wr A w) : ∃ va, Pk.Blk w g [.slice a n c, .string gone, .string long, va] 46 ∧ TxR B w va (A.map tlp) := by
  obtain ⟨Fs, h1, _⟩ := h.ex
  obtain ⟨va, hb, hR, _⟩ := h1.ex
  exact ⟨va, hb, hR⟩
theorem FM.sn (h : FM B a n c l gone long g F wr [] w) {Fs Fs' : Nat → Prop} (h1 : FlAt B a n c l gone long g w Fs []) (h2 : ∀ q, Fs q → F q ∨ wr.heap.size ≤ q) {hf : Fit l} {hn : n ≤ 100000} {k : Nat} (hS : SN (filS B a n c l gone long g hf hn) k [] Fs w A Fs' w') : FM B a n c l gone long g F wr A w' := by
  have hbl := hS.chg.below h.sz fun i hi => (h1.lt i hi).1
  refine ⟨⟨Fs', hS.src, fun q hq => ?_⟩, h.chg.trans hS.chg fun i hi e => ?_, h.ld.below hbl, Nat.le_trans h.sz hS.chg.size, h.gF⟩
  · rcases hS.foot q hq with h3 | h3
    · exact h2 q h3
    · exact .inr (Nat.le_trans h.chg.size h3)
  · rcases h2 i e with h3 | h3
    · exact h3
    · omega
theorem fm_root (hK : Kind path gone long want) (h32 : All32 l) (hn : n ≤ 1024) (hn1 : 1 ≤ n) (hl : l.length = n) (h : FM B a n c l gone long g F wr [] w) :
    Calls Tryd.prog 20 #[flV g, .int .i64 (n : Int)] w fun e w' => ∃ A r E, e = .returned (.tuple #[.string r, .int .i64 E]) ∧ FM B a n c l gone long g F wr A w' ∧ ((E = 0 ∧ r = rootL l) ∨ (E = want ∧ r = ByteArray.empty)) := by
  obtain ⟨Fs, h1, h2⟩ := h.ex
  refine (troot_any (filS B a n c l gone long g h32.fit (by omega)) n [] Fs w h1 h.ld h.sz hn1 hn (by simp)).mono fun e w' => ?_
  rintro ⟨A, Fs', r, rfl, hS, hr1, hr2⟩
  refine ⟨A, r, _, rfl, h.sn h1 h2 hS, ?_⟩
  rcases fil_ends (hn := by omega) hK h32 (by omega) hS.tiles hS.good with ⟨h3, _, h5⟩ | ⟨h3, _⟩
  · refine .inl ⟨h3, ?_⟩
    rw [hr2 h3 _ h5, rootG_nod l n (by omega) n 0 (Part.all hn1), List.drop_zero, List.take_of_length_le (by omega)]
  · exact .inr ⟨h3, hr1 (by rw [h3]; exact hK.ne)⟩
theorem fm_inc (j : Nat) (hK : Kind path gone long want) (h32 : All32 l) (hn : n ≤ 1024) (hj : j < n) (hl : l.length = n) (h : FM B a n c l gone long g F wr [] w) :
    Calls Tryd.prog 21 #[flV g, .int .i64 (n : Int), .int .i64 (j : Int)] w fun e w' => ∃ A v P E, e = .returned (.tuple #[v, .int .i64 E]) ∧ FM B a n c l gone long g F wr A w' ∧ TxR w.heap.size w' v P ∧ A.length ≤ 4096 ∧ ((E = 0 ∧ P = incL l j ∧ path ∉ A.map tlp) ∨ (E = want ∧ P = [] ∧ path ∈ A.map tlp)) := by
  obtain ⟨Fs, h1, h2⟩ := h.ex
  refine (tinc_any (filS B a n c l gone long g h32.fit (by omega)) n j [] Fs w h1 h.ld h.sz hj hn (by simp)).mono fun e w' => ?_
  rintro ⟨A, Fs', v, P, rfl, hS, hR, hap, hr1, hr2, hsz⟩
  refine ⟨A, v, P, _, rfl, h.sn h1 h2 hS, hR, by have := hS.len; omega, ?_⟩
  rcases fil_ends (hn := by omega) hK h32 (by omega) hS.tiles hS.good with ⟨h3, h4, h5⟩ | ⟨h3, h4⟩
  · refine .inl ⟨h3, ?_, h4⟩
    have hP : P = besG (nodG l) j 1 0 n := hr2 h3 _ h5
    rw [besG_leaf l n j (by omega) n 0 (Part.all (by omega)) (Nat.zero_le _) (by omega), List.drop_zero, Nat.sub_zero, List.take_of_length_le (by omega)] at hP
    unfold incL
    rw [if_pos (by omega), Int.toNat_natCast]
    exact hP
  · exact .inr ⟨h3, hr1 (by rw [h3]; exact hK.ne), h4⟩
end
end Go.Proofs.YtlkopllpadhnlaaDoor

namespace Go.Proofs.YtlkopllpadhnlaaDoor
open Go Go.RowKit

/-- Is it among them? -/
def hasP (Q : List ByteArray) (p : ByteArray) : Bool := Q.any fun y => decide (y = p)
theorem hasP_iff {Q : List ByteArray} {p : ByteArray} : hasP Q p = true ↔ p ∈ Q := by unfold hasP; simp
theorem hasP_no {Q : List ByteArray} {p : ByteArray} (h : p ∉ Q) : hasP Q p = false := by
  cases e : hasP Q p
  · rfl
  · exact absurd (hasP_iff.1 e) h
theorem hasP_snoc (Q : List ByteArray) (x p : ByteArray) : hasP (Q ++ [x]) p = (hasP Q p || decide (x = p)) := by unfold hasP; simp
/-- The blocks of the files in g. -/
def FF (a : Option Addr) (g : Nat) (q : Nat) : Prop := q = g ∨ ∃ ad, a = some ad ∧ ad.block = q
/-- In the law's loop: the files that are still to come. -/
structure LpF (w0 : World) (a : Option Addr) (k c : Nat) (l : List ByteArray) (p : ByteArray) (g1 g2 gp i : Nat) (w : World) : Prop where
  pa : PA w a k c l
  ptr : Pk.Blk w gp [.pointer (some ⟨g1, 0, none⟩), .pointer (some ⟨g2, 0, none⟩)] 44
  f1 : i = 0 → Pk.Blk w g1 [.slice a k c, .string p, .string ByteArray.empty, .slice none 0 0] 46
  f2 : i ≤ 1 → Pk.Blk w g2 [.slice a k c, .string ByteArray.empty, .string p, .slice none 0 0] 46
  ne : g1 ≠ g2 ∧ gp ≠ g1 ∧ gp ≠ g2
  low : w0.heap.size ≤ g1 ∧ w0.heap.size ≤ g2 ∧ w0.heap.size ≤ gp
  ad : ∀ ad, a = some ad → w0.heap.size ≤ ad.block ∧ ad.block < w.heap.size ∧ ad.block ≠ g1 ∧ ad.block ≠ g2 ∧ ad.block ≠ gp
  ld : Ld w0.heap.size w
  bel : Below w0.heap.size w0 w
section
variable {w0 w w' : World} {a : Option Addr} {k c : Nat} {l : List ByteArray} {p gone long : ByteArray} {g g1 g2 gp i : Nat} {A : List Tl}
theorem LpF.fm (h : LpF w0 a k c l p g1 g2 gp i w) (hb : Pk.Blk w g [.slice a k c, .string gone, .string long, .slice none 0 0] 46) (hg : w0.heap.size ≤ g) (had : ∀ ad, a = some ad → ad.block ≠ g) :
    FM w0.heap.size a k c l gone long g (FF a g) w [] w :=
  ⟨⟨FF a g, ⟨⟨.slice none 0 0, hb, TxR.nil _ _, fun q => ⟨fun e => e.elim .inl fun e => .inr (.inr e), fun e => e.elim .inl fun e => e.elim (fun e => by cases e) .inr⟩, fun ad e => ⟨(h.ad ad e).1, (h.ad ad e).2.1, had ad e, fun e => by cases e⟩⟩, h.pa, hg⟩, fun q hq => .inl hq⟩, Pk.Chg.refl _ _, h.ld, h.bel.size, .inl rfl⟩
theorem LpF.next (h : LpF w0 a k c l p g1 g2 gp i w) (hF : FM w0.heap.size a k c l gone long g (FF a g) w A w') (hg : w0.heap.size ≤ g) (hgp : gp ≠ g) (h2 : i = 0 → g2 ≠ g) : LpF w0 a k c l p g1 g2 gp (i + 1) w' := by
  have hFF : ∀ q, FF a g q → w0.heap.size ≤ q := fun q hq => by
    rcases hq with rfl | ⟨ad, e, rfl⟩
    · exact hg
    · exact (h.ad ad e).1
  refine ⟨hF.pa, hF.chg.blk h.ptr fun e => ?_, fun e => by omega, fun e => hF.chg.blk (h.f2 (by omega)) fun e2 => ?_, h.ne, h.low, fun ad e => ⟨(h.ad ad e).1, Nat.lt_of_lt_of_le (h.ad ad e).2.1 hF.chg.size, (h.ad ad e).2.2⟩, hF.ld, h.bel.trans (hF.chg.below h.bel.size hFF)⟩
  · rcases e with e | ⟨ad, e, e3⟩
    · exact hgp e
    · exact (h.ad ad e).2.2.2.2 e3
  · rcases e2 with e2 | ⟨ad, e3, e2⟩
    · exact h2 (by omega) e2
    · exact (h.ad ad e3).2.2.2.1 e2
theorem LpF.take (h : LpF w0 a k c l p g1 g2 gp i w) (hi : i < 2) : ∃ g gone long want, Kind p gone long want ∧ w.cell? ⟨gp, i, none⟩ = some (.pointer (some ⟨g, 0, none⟩)) ∧ FM w0.heap.size a k c l gone long g (FF a g) w [] w ∧ ∀ A w', FM w0.heap.size a k c l gone long g (FF a g) w A w' → LpF w0 a k c l p g1 g2 gp (i + 1) w' := by
  rcases Nat.eq_zero_or_pos i with h0 | h0
  · subst h0
    exact ⟨g1, p, ByteArray.empty, 15, .inl ⟨rfl, rfl, rfl⟩, h.ptr.cell 0, h.fm (h.f1 rfl) h.low.1 fun ad e => (h.ad ad e).2.2.1, fun A w' hF => h.next hF h.low.1 h.ne.2.1 fun _ => h.ne.1.symm⟩
  · obtain rfl : i = 1 := by omega
    exact ⟨g2, ByteArray.empty, p, 3, .inr ⟨rfl, rfl, rfl⟩, h.ptr.cell 1, h.fm (h.f2 (Nat.le_refl _)) h.low.2.1 fun ad e => (h.ad ad e).2.2.2.1, fun A w' hF => h.next hF h.low.2.1 h.ne.2.2 fun e => by omega⟩
end
set_option maxHeartbeats 12800000 in
set_option maxRecDepth 100000 in
theorem law_fails (n0 n1 : Nat) (z : Int) (W : World) (hL : Ld W.heap.size W) (h0 : n0 < 256) (h1 : n1 < 256) :
    Calls Tryd.prog 7 #[.int .u8 (n0 : Int), .int .u8 (n1 : Int), .int .i64 z] W fun e W' => e = .returned (.bool true) ∧ Below W.heap.size W W' := by
  have hR := reads_any W.heap.size W hL (Nat.le_refl _)
  obtain ⟨q, hq⟩ : ∃ q, n0 % 60 = q := ⟨_, rfl⟩
  have hq1 : (n0 : Int) % 60 = (q : Int) := by omega
  obtain ⟨k, hk⟩ : ∃ k, 1 + q = k := ⟨_, rfl⟩
  have hk1 : 1 + (q : Int) = (k : Int) := by omega
  have hkl : k ≤ 60 := by omega
  have hk0 : 1 ≤ k := by omega
  have hLv := Box.mk (fun w => leavesT_any k w (by omega))
  have hDa := Box.mk (fun w => dall_any k w hk0 (by omega))
  unfold LeavesT at hLv
  unfold AllIs at hDa
  obtain ⟨pl, hpl, hplk⟩ : ∃ pl : Nat, Box (wrap64 ((IntKind.u64.wrap z).tmod (k : Int)) = (pl : Int)) ∧ pl < k := by
    obtain ⟨U, hU⟩ : ∃ U : Nat, IntKind.u64.wrap z = (U : Int) := ⟨(IntKind.u64.wrap z).toNat, by rw [show IntKind.u64.wrap z = z % 18446744073709551616 from rfl]; omega⟩
    refine ⟨U % k, ⟨?_⟩, Nat.mod_lt _ hk0⟩
    rw [hU, show (U : Int).tmod (k : Int) = ((U % k : Nat) : Int) from rfl]
    have := Nat.mod_lt U hk0
    unfold wrap64; omega
  replace hL := Box.mk hL
  clear hq hk
  go_enter Tryd.func7, Tryd.ntmps7
  go_wp2_with fail
  refine hR.mono ?_
  clear hR
  rintro e w1 ⟨rfl, hb1⟩
  have hL1 := hL.out.here hb1 (Nat.le_refl _)
  replace hb1 := Box.mk hb1
  go_wp2_with fail
  refine (hLv.out w1).mono ?_
  clear hLv
  rintro e w2 ⟨v, l, rfl, hll, h32, hT, hb2⟩
  obtain ⟨a, c, rfl⟩ := hT.shape
  rw [hll] at hT ⊢
  replace h32 : Box (All32 l) := ⟨h32⟩
  replace hll := Box.mk hll
  have hcap := (hT.pa hll.out).cap
  have htop := (hT.pa hll.out).top
  have hb3 := Box.mk (mono_bel hb1.out hb2 (Nat.le_refl _))
  replace hT := Box.mk (hT.base hb1.out.size)
  clear hb1 hb2 hL1
  go_wp2_with fail
  refine (hDa.out w2).mono ?_
  clear hDa
  rintro e w3 ⟨vt, rfl, hTl, hb4⟩
  have hM0 : 0 < (allT k).length := by
    have : (⟨0, 0, (widN k 0 0).toNat⟩ : Tl) ∈ allT k := by
      refine tln_all (n := k) ⟨⟨Nat.zero_le _, Nat.zero_le _, ?_, ?_⟩, ?_⟩
      all_goals
        have h6 : widN k 0 0 = min 4 ((nodN k 0 : Int) - ((0 : Nat) : Int) * 4) := rfl
        have h7 : nodN k 0 = k := Nat.div_one k
        rw [h7] at h6
        simp only
        omega
    exact List.length_pos_of_mem this
  obtain ⟨gt, ct, rfl, hgt⟩ := hTl.row.some hM0
  obtain ⟨M, hM⟩ : ∃ M, (allT k).length = M := ⟨_, rfl⟩
  rw [hM] at hTl hM0 ⊢
  obtain ⟨j, hj⟩ : ∃ j, n1 % M = j := ⟨_, rfl⟩
  have hjM : j < M := by rw [← hj]; exact Nat.mod_lt _ hM0
  have hj1 : (n1 : Int) % (M : Int) = (j : Int) := by rw [← hj]; rfl
  have hj2 : (n1 : Int).tmod (M : Int) = (j : Int) := by rw [← hj]; rfl
  have hMz : ((M : Int) == 0) = false := by simp; omega
  have hM8 : M ≤ 8000 := by rw [← hM]; have := allL_len (n := k) (by omega) 6; unfold allT; omega
  obtain ⟨e0, e1, e2⟩ := hTl.cell hM hjM
  obtain ⟨t, ht⟩ : ∃ t, (allT k)[j]'(by rw [hM]; exact hjM) = t := ⟨_, rfl⟩
  rw [ht] at e0 e1 e2
  have htk : Box (TlN k t) := ⟨allT_ok (by omega) (by rw [← ht]; exact List.getElem_mem _)⟩
  replace hb3 := Box.mk (mono_bel hb3.out hb4 (Nat.le_refl _))
  replace hT := Box.mk (hT.out.here hb4)
  have hD := dpath_any t.L t.I t.W W.heap.size w3 (hL.out.here hb3.out (Nat.le_refl _)) hb3.out.size
  have hpu : pathT t.L t.I t.W = tlp t := rfl
  rw [hpu] at hD
  obtain ⟨p, hp⟩ : ∃ p, tlp t = p := ⟨_, rfl⟩
  rw [hp] at hD
  unfold tv at hD
  replace hp := Box.mk hp
  replace hD := Box.mk hD
  clear hTl hM hj ht hpu hb4
  go_wp2_with fail
  refine hD.out.mono ?_
  clear hD e0 e1 e2
  rintro e w4 ⟨rfl, hb4⟩
  replace hb3 := Box.mk (mono_bel hb3.out hb4 (Nat.le_refl _))
  replace hT := Box.mk (hT.out.here hb4)
  clear hb4
  have hw0 : LpF W a k c l p w4.heap.size (w4.heap.size + 1) (w4.heap.size + 2) 0 (((w4.alloc (.cells #[.slice a k c, .string p, .string ByteArray.empty, .slice none 0 0] 46)).alloc (.cells #[.slice a k c, .string ByteArray.empty, .string p, .slice none 0 0] 46)).alloc (.cells #[.pointer (some ⟨w4.heap.size, 0, none⟩), .pointer (some ⟨w4.heap.size + 1, 0, none⟩)] 44)) := by
    obtain ⟨x1, hx1⟩ : ∃ x, w4.alloc (.cells #[.slice a k c, .string p, .string ByteArray.empty, .slice none 0 0] 46) = x := ⟨_, rfl⟩
    have b1 : Pk.Blk x1 w4.heap.size [.slice a k c, .string p, .string ByteArray.empty, .slice none 0 0] 46 := by rw [← hx1]; exact Pk.Blk.new w4 _ _
    have s1 : x1.heap.size = w4.heap.size + 1 := by rw [← hx1]; simp
    have l1 : Below w4.heap.size w4 x1 := by rw [← hx1]; exact bel_alloc _ _
    rw [hx1]
    obtain ⟨x2, hx2⟩ : ∃ x, x1.alloc (.cells #[.slice a k c, .string ByteArray.empty, .string p, .slice none 0 0] 46) = x := ⟨_, rfl⟩
    have b2 : Pk.Blk x2 (w4.heap.size + 1) [.slice a k c, .string ByteArray.empty, .string p, .slice none 0 0] 46 := by rw [← hx2, ← s1]; exact Pk.Blk.new x1 _ _
    have s2 : x2.heap.size = w4.heap.size + 2 := by rw [← hx2]; simp [s1]
    have l2 : Below x1.heap.size x1 x2 := by rw [← hx2]; exact bel_alloc _ _
    rw [hx2]
    obtain ⟨x3, hx3⟩ : ∃ x, x2.alloc (.cells #[.pointer (some ⟨w4.heap.size, 0, none⟩), .pointer (some ⟨w4.heap.size + 1, 0, none⟩)] 44) = x := ⟨_, rfl⟩
    have b3 : Pk.Blk x3 (w4.heap.size + 2) [.pointer (some ⟨w4.heap.size, 0, none⟩), .pointer (some ⟨w4.heap.size + 1, 0, none⟩)] 44 := by rw [← hx3, ← s2]; exact Pk.Blk.new x2 _ _
    have s3 : x3.heap.size = w4.heap.size + 3 := by rw [← hx3]; simp [s2]
    have l3 : Below x2.heap.size x2 x3 := by rw [← hx3]; exact bel_alloc _ _
    rw [hx3]
    have hbs := hb3.out.size
    have l13 : Below w4.heap.size w4 x3 := mono_bel (mono_bel l1 l2 (by omega)) l3 (by omega)
    have hbf := mono_bel hb3.out l13 (Nat.le_refl _)
    have hT3 := hT.out.here l13
    refine ⟨hT3.pa hll.out, b3, fun _ => (l3.block _ (by omega)).trans ((l2.block _ (by omega)).trans b1), fun _ => (l3.block _ (by omega)).trans b2, by omega, by omega, fun ad e => ?_, hL.out.here hbf (Nat.le_refl _), hbf⟩
    have had : W.heap.size ≤ ad.block ∧ ad.block < w4.heap.size := by
      obtain ⟨_, ⟨h9, _⟩ | ⟨g, cap, cur, h9, q9, hg, _⟩⟩ := hT.out
      · rw [e] at h9; cases h9
      · rw [e] at h9; cases h9
        exact ⟨q9, (Array.getElem?_eq_some_iff.1 hg).1⟩
    omega
  obtain ⟨W1, hW1⟩ : ∃ W1, ((w4.alloc (.cells #[.slice a k c, .string p, .string ByteArray.empty, .slice none 0 0] 46)).alloc (.cells #[.slice a k c, .string ByteArray.empty, .string p, .slice none 0 0] 46)).alloc (.cells #[.pointer (some ⟨w4.heap.size, 0, none⟩), .pointer (some ⟨w4.heap.size + 1, 0, none⟩)] 44) = W1 := ⟨_, rfl⟩
  rw [hW1] at hw0
  replace hw0 := Box.mk hw0
  replace hW1 := Box.mk hW1
  clear hb3 hT hL
  go_wp2_with fail
  rw [show ((w4.alloc (.cells #[.slice a k c, .string p, .string ⟨#[]⟩, .slice none 0 0] 46)).alloc (.cells #[.slice a k c, .string ⟨#[]⟩, .string p, .slice none 0 0] 46)).alloc (.cells #[.pointer (some ⟨w4.heap.size, 0, none⟩), .pointer (some ⟨w4.heap.size + 1, 0, none⟩)] 44) = W1 from hW1.out]
  simp only [hpl.out]
  obtain ⟨g1, hg1⟩ : ∃ g, w4.heap.size = g := ⟨_, rfl⟩
  rw [hg1] at hw0
  simp only [hg1]
  clear hg1 hW1 hpl hj1 hj2
  go_loopw [14, 16, 58] (fun _ _ v58 wr => ∃ i : Nat, i ≤ 2 ∧ v58 = .int .i64 (i : Int) ∧ Box (LpF W a k c l p g1 (g1 + 1) (g1 + 2) i wr)) (fun _ _ v58 _ => 2 - (intOf v58).toNat)
  case atStart => exact ⟨0, by omega, rfl, hw0⟩
  case round =>
    clear hw0
    obtain ⟨i, hi, rfl, hX⟩ := hrel
    by_cases hlt : i < 2
    · obtain ⟨g, gone, long, want, hK, cp, hF, hnx⟩ := hX.out.take hlt
      obtain ⟨va, hbk, _⟩ := hF.blk
      have c2 := hbk.cell 2
      simp only [List.getElem?_cons_zero, List.getElem?_cons_succ] at c2
      have hRt := fm_root hK h32.out (by omega) hk0 hll.out hF
      unfold flV at hRt
      have hKc : ((!long.toList.isEmpty) = false ∧ want = 15) ∨ ((!long.toList.isEmpty) = true ∧ want = 3) := by
        rcases hK with ⟨_, rfl, rfl⟩ | ⟨_, rfl, rfl⟩
        · exact .inl ⟨by simp, rfl⟩
        · refine .inr ⟨?_, rfl⟩
          cases hpl : long.toList with
          | nil => exact absurd (show long = ByteArray.empty from ba_ext (by rw [← ByteArray.toList_eq, hpl]; rfl)) (by rw [← hp.out]; exact tlp_ne htk.out.1)
          | cons _ _ => rfl
      obtain ⟨R0, hR0⟩ : ∃ R0, rootL l = R0 := ⟨_, rfl⟩
      rw [hR0] at hRt
      have hrr := Box.mk (fun w' (h : PA w' a k c l) => rroot_any k l a c w' h h32.out.fit)
      rw [hR0] at hrr
      replace hK := Box.mk hK
      replace hnx := Box.mk hnx
      have hrq : (R0.toList == R0.toList) = true := by simp
      clear hF hX hbk hR0
      rcases hKc with ⟨hlq, hwt⟩ | ⟨hlq, hwt⟩
      all_goals
        rw [hwt] at hRt hK
        clear hwt
        go_wp2_with fail
        refine hRt.mono ?_
        clear hRt cp c2 hlq
        rintro e w5 ⟨A, r, E, rfl, hF, hr⟩
        rcases hr with ⟨rfl, rfl⟩ | ⟨rfl, rfl⟩
      all_goals
        try (have hr1 := hrr.out w5 hF.pa)
      · replace hF := Box.mk hF
        clear hrr
        go_wp2_with fail
        refine hr1.mono ?_
        clear hr1
        rintro e w6 ⟨rfl, hb6⟩
        replace hF := Box.mk (hF.out.here hb6)
        clear hb6
        obtain ⟨va3, hbk3, _⟩ := hF.out.blk
        have c3 := hbk3.cell 3
        have f3 := hbk3.free 3
        simp only [List.getElem?_cons_zero, List.getElem?_cons_succ] at c3
        have hI := fm_inc pl hK.out h32.out (by omega) hplk hll.out hF.out.reset
        unfold flV at hI
        clear hF hbk3
        go_wp2_with fail
        refine hI.mono ?_
        clear hI c3 f3
        rintro e w7 ⟨A2, v2, P2, E2, rfl, hF2, hT2, hA2, hc2⟩
        obtain ⟨vb, hbk4, hTb⟩ := hF2.blk
        obtain ⟨aq, cq, rfl⟩ := hTb.shape
        have c3 := hbk4.cell 3
        simp only [List.getElem?_cons_zero, List.getElem?_cons_succ] at c3
        obtain ⟨m, hm⟩ : ∃ m, (A2.map tlp).length = m := ⟨_, rfl⟩
        have hm4 : m ≤ 4096 := by rw [← hm]; simp; exact hA2
        rw [hm] at c3 hTb
        have hcl := Box.mk (hTb.pa hm).at_
        obtain ⟨Q, hQ⟩ : ∃ Q, A2.map tlp = Q := ⟨_, rfl⟩
        rw [hQ] at hcl hc2
        have hmQ := Box.mk (show Q.length = m by rw [← hQ]; exact hm)
        replace hF2 := Box.mk hF2
        replace hT2 := Box.mk (hT2.base (Nat.zero_le _))
        replace hc2 := Box.mk hc2
        clear hbk4 hTb hm hA2 hQ
        go_wp2_with fail
        have hfb0 : Box (false = hasP (Q.take 0) p) := ⟨rfl⟩
        go_loopw [18, 20, 111] (fun v18 _ v111 wr => ∃ (j : Nat) (fb : Bool), j ≤ m ∧ v111 = .int .i64 (j : Int) ∧ v18 = .bool fb ∧ Box (fb = hasP (Q.take j) p) ∧ Box (wr = w7)) (fun _ _ v111 _ => m - (intOf v111).toNat)
        case atStart => exact ⟨0, false, by omega, rfl, rfl, hfb0, ⟨rfl⟩⟩
        case round =>
          clear hfb0 c3
          obtain ⟨j, fb, hj, rfl, rfl, hfb, hww⟩ := hrel
          obtain rfl := hww.out
          clear hww
          by_cases hjl : j < m
          · obtain ⟨ga, off, rfl, hga, hcc⟩ := hcl.out (by omega)
            have e1 := hcc j hjl
            obtain ⟨x, hx⟩ : ∃ x, Q.getD j ByteArray.empty = x := ⟨_, rfl⟩
            rw [hx] at e1
            have hxj : Q[j]? = some x := by
              have : j < Q.length := by rw [hmQ.out]; exact hjl
              rw [← hx]; simp [List.getD, this]
            have hnext : Box ((fb || (x.toList == p.toList)) = hasP (Q.take (j + 1)) p) := ⟨by
              rw [tl_eq, hfb.out, List.take_add_one, hxj]
              exact (hasP_snoc _ _ _).symm⟩
            clear hcc hx hxj hfb hcl
            cases fb
            · go_wp2_with fail
              exact ⟨⟨j + 1, _, by omega, by go_num, rfl, ⟨by rw [← hnext.out]; rfl⟩, ⟨trivial⟩⟩, by simp [intOf]; omega⟩
            · go_wp2_with fail
              exact ⟨⟨j + 1, true, by omega, by go_num, rfl, ⟨by rw [← hnext.out]; rfl⟩, ⟨trivial⟩⟩, by simp [intOf]; omega⟩
          · obtain rfl : j = m := by omega
            have hfbm : Box (fb = hasP Q p) := ⟨by rw [hfb.out, List.take_of_length_le (by rw [hmQ.out]; exact Nat.le_refl _)]⟩
            have hq := rinclusion_any k l pl a c wr hF2.out.pa h32.out.fit
            unfold RowsE at hq
            obtain ⟨IE, hIE⟩ : ∃ IE, incE l pl = IE := ⟨_, rfl⟩
            rw [hIE] at hq
            have hIl := incL_len' l pl (by rw [hll.out]; omega)
            clear hfb hcl hmQ hIE
            rcases hc2.out with ⟨rfl, hP, hno⟩ | ⟨rfl, hP, hyes⟩
            · rw [hasP_no hno] at hfbm
              obtain rfl := hfbm.out
              subst hP
              clear hno hc2
              go_wp2_with fail
              refine hq.mono ?_
              clear hq
              rintro e w8 ⟨v8, rfl, hT8, hb8⟩
              have hs := same_any v2 v8 (incL l pl) (incL l pl) w8 (hT2.out.here hb8).parts hT8.parts (by unfold maxLen; omega)
              rw [texB_self'] at hs
              replace hF2 := Box.mk (hF2.out.here hb8)
              clear hT8 hb8 hT2 hIl
              go_wp2_with fail
              refine hs.mono ?_
              clear hs
              rintro e w9 ⟨rfl, hb9⟩
              have hX9 := Box.mk (hnx.out _ _ (hF2.out.here hb9))
              clear hb9 hF2 hnx
              go_wp2_with fail
              exact ⟨⟨i + 1, by omega, by go_num, hX9⟩, by simp [intOf]; omega⟩
            · rw [hasP_iff.2 hyes] at hfbm
              obtain rfl := hfbm.out
              subst hP
              obtain ⟨a2, c2, rfl⟩ := hT2.out.shape
              clear hyes hc2 hT2 hIl
              go_wp2_with fail
              refine hq.mono ?_
              clear hq
              rintro e w8 ⟨v8, rfl, hT8, hb8⟩
              have hX9 := Box.mk (hnx.out _ _ (hF2.out.here hb8))
              clear hT8 hb8 hF2 hnx
              go_wp2_with fail
              exact ⟨⟨i + 1, by omega, by go_num, hX9⟩, by simp [intOf]; omega⟩
      · replace hF := Box.mk hF
        clear hrr hr1
        obtain ⟨va3, hbk3, _⟩ := hF.out.blk
        have c3 := hbk3.cell 3
        have f3 := hbk3.free 3
        simp only [List.getElem?_cons_zero, List.getElem?_cons_succ] at c3
        have hI := fm_inc pl hK.out h32.out (by omega) hplk hll.out hF.out.reset
        unfold flV at hI
        clear hF hbk3
        go_wp2_with fail
        refine hI.mono ?_
        clear hI c3 f3
        rintro e w7 ⟨A2, v2, P2, E2, rfl, hF2, hT2, hA2, hc2⟩
        obtain ⟨vb, hbk4, hTb⟩ := hF2.blk
        obtain ⟨aq, cq, rfl⟩ := hTb.shape
        have c3 := hbk4.cell 3
        simp only [List.getElem?_cons_zero, List.getElem?_cons_succ] at c3
        obtain ⟨m, hm⟩ : ∃ m, (A2.map tlp).length = m := ⟨_, rfl⟩
        have hm4 : m ≤ 4096 := by rw [← hm]; simp; exact hA2
        rw [hm] at c3 hTb
        have hcl := Box.mk (hTb.pa hm).at_
        obtain ⟨Q, hQ⟩ : ∃ Q, A2.map tlp = Q := ⟨_, rfl⟩
        rw [hQ] at hcl hc2
        have hmQ := Box.mk (show Q.length = m by rw [← hQ]; exact hm)
        replace hF2 := Box.mk hF2
        replace hT2 := Box.mk (hT2.base (Nat.zero_le _))
        replace hc2 := Box.mk hc2
        clear hbk4 hTb hm hA2 hQ
        go_wp2_with fail
        have hfb0 : Box (false = hasP (Q.take 0) p) := ⟨rfl⟩
        go_loopw [18, 20, 111] (fun v18 _ v111 wr => ∃ (j : Nat) (fb : Bool), j ≤ m ∧ v111 = .int .i64 (j : Int) ∧ v18 = .bool fb ∧ Box (fb = hasP (Q.take j) p) ∧ Box (wr = w7)) (fun _ _ v111 _ => m - (intOf v111).toNat)
        case atStart => exact ⟨0, false, by omega, rfl, rfl, hfb0, ⟨rfl⟩⟩
        case round =>
          clear hfb0 c3
          obtain ⟨j, fb, hj, rfl, rfl, hfb, hww⟩ := hrel
          obtain rfl := hww.out
          clear hww
          by_cases hjl : j < m
          · obtain ⟨ga, off, rfl, hga, hcc⟩ := hcl.out (by omega)
            have e1 := hcc j hjl
            obtain ⟨x, hx⟩ : ∃ x, Q.getD j ByteArray.empty = x := ⟨_, rfl⟩
            rw [hx] at e1
            have hxj : Q[j]? = some x := by
              have : j < Q.length := by rw [hmQ.out]; exact hjl
              rw [← hx]; simp [List.getD, this]
            have hnext : Box ((fb || (x.toList == p.toList)) = hasP (Q.take (j + 1)) p) := ⟨by
              rw [tl_eq, hfb.out, List.take_add_one, hxj]
              exact (hasP_snoc _ _ _).symm⟩
            clear hcc hx hxj hfb hcl
            cases fb
            · go_wp2_with fail
              exact ⟨⟨j + 1, _, by omega, by go_num, rfl, ⟨by rw [← hnext.out]; rfl⟩, ⟨trivial⟩⟩, by simp [intOf]; omega⟩
            · go_wp2_with fail
              exact ⟨⟨j + 1, true, by omega, by go_num, rfl, ⟨by rw [← hnext.out]; rfl⟩, ⟨trivial⟩⟩, by simp [intOf]; omega⟩
          · obtain rfl : j = m := by omega
            have hfbm : Box (fb = hasP Q p) := ⟨by rw [hfb.out, List.take_of_length_le (by rw [hmQ.out]; exact Nat.le_refl _)]⟩
            have hq := rinclusion_any k l pl a c wr hF2.out.pa h32.out.fit
            unfold RowsE at hq
            obtain ⟨IE, hIE⟩ : ∃ IE, incE l pl = IE := ⟨_, rfl⟩
            rw [hIE] at hq
            have hIl := incL_len' l pl (by rw [hll.out]; omega)
            clear hfb hcl hmQ hIE
            rcases hc2.out with ⟨rfl, hP, hno⟩ | ⟨rfl, hP, hyes⟩
            · rw [hasP_no hno] at hfbm
              obtain rfl := hfbm.out
              subst hP
              clear hno hc2
              go_wp2_with fail
              refine hq.mono ?_
              clear hq
              rintro e w8 ⟨v8, rfl, hT8, hb8⟩
              have hs := same_any v2 v8 (incL l pl) (incL l pl) w8 (hT2.out.here hb8).parts hT8.parts (by unfold maxLen; omega)
              rw [texB_self'] at hs
              replace hF2 := Box.mk (hF2.out.here hb8)
              clear hT8 hb8 hT2 hIl
              go_wp2_with fail
              refine hs.mono ?_
              clear hs
              rintro e w9 ⟨rfl, hb9⟩
              have hX9 := Box.mk (hnx.out _ _ (hF2.out.here hb9))
              clear hb9 hF2 hnx
              go_wp2_with fail
              exact ⟨⟨i + 1, by omega, by go_num, hX9⟩, by simp [intOf]; omega⟩
            · rw [hasP_iff.2 hyes] at hfbm
              obtain rfl := hfbm.out
              subst hP
              obtain ⟨a2, c2, rfl⟩ := hT2.out.shape
              clear hyes hc2 hT2 hIl
              go_wp2_with fail
              refine hq.mono ?_
              clear hq
              rintro e w8 ⟨v8, rfl, hT8, hb8⟩
              have hX9 := Box.mk (hnx.out _ _ (hF2.out.here hb8))
              clear hT8 hb8 hF2 hnx
              go_wp2_with fail
              exact ⟨⟨i + 1, by omega, by go_num, hX9⟩, by simp [intOf]; omega⟩
      · replace hF := Box.mk hF
        clear hrr
        go_wp2_with fail
        refine hr1.mono ?_
        clear hr1
        rintro e w6 ⟨rfl, hb6⟩
        replace hF := Box.mk (hF.out.here hb6)
        clear hb6
        obtain ⟨va3, hbk3, _⟩ := hF.out.blk
        have c3 := hbk3.cell 3
        have f3 := hbk3.free 3
        simp only [List.getElem?_cons_zero, List.getElem?_cons_succ] at c3
        have hI := fm_inc pl hK.out h32.out (by omega) hplk hll.out hF.out.reset
        unfold flV at hI
        clear hF hbk3
        go_wp2_with fail
        refine hI.mono ?_
        clear hI c3 f3
        rintro e w7 ⟨A2, v2, P2, E2, rfl, hF2, hT2, hA2, hc2⟩
        obtain ⟨vb, hbk4, hTb⟩ := hF2.blk
        obtain ⟨aq, cq, rfl⟩ := hTb.shape
        have c3 := hbk4.cell 3
        simp only [List.getElem?_cons_zero, List.getElem?_cons_succ] at c3
        obtain ⟨m, hm⟩ : ∃ m, (A2.map tlp).length = m := ⟨_, rfl⟩
        have hm4 : m ≤ 4096 := by rw [← hm]; simp; exact hA2
        rw [hm] at c3 hTb
        have hcl := Box.mk (hTb.pa hm).at_
        obtain ⟨Q, hQ⟩ : ∃ Q, A2.map tlp = Q := ⟨_, rfl⟩
        rw [hQ] at hcl hc2
        have hmQ := Box.mk (show Q.length = m by rw [← hQ]; exact hm)
        replace hF2 := Box.mk hF2
        replace hT2 := Box.mk (hT2.base (Nat.zero_le _))
        replace hc2 := Box.mk hc2
        clear hbk4 hTb hm hA2 hQ
        go_wp2_with fail
        have hfb0 : Box (false = hasP (Q.take 0) p) := ⟨rfl⟩
        go_loopw [18, 20, 111] (fun v18 _ v111 wr => ∃ (j : Nat) (fb : Bool), j ≤ m ∧ v111 = .int .i64 (j : Int) ∧ v18 = .bool fb ∧ Box (fb = hasP (Q.take j) p) ∧ Box (wr = w7)) (fun _ _ v111 _ => m - (intOf v111).toNat)
        case atStart => exact ⟨0, false, by omega, rfl, rfl, hfb0, ⟨rfl⟩⟩
        case round =>
          clear hfb0 c3
          obtain ⟨j, fb, hj, rfl, rfl, hfb, hww⟩ := hrel
          obtain rfl := hww.out
          clear hww
          by_cases hjl : j < m
          · obtain ⟨ga, off, rfl, hga, hcc⟩ := hcl.out (by omega)
            have e1 := hcc j hjl
            obtain ⟨x, hx⟩ : ∃ x, Q.getD j ByteArray.empty = x := ⟨_, rfl⟩
            rw [hx] at e1
            have hxj : Q[j]? = some x := by
              have : j < Q.length := by rw [hmQ.out]; exact hjl
              rw [← hx]; simp [List.getD, this]
            have hnext : Box ((fb || (x.toList == p.toList)) = hasP (Q.take (j + 1)) p) := ⟨by
              rw [tl_eq, hfb.out, List.take_add_one, hxj]
              exact (hasP_snoc _ _ _).symm⟩
            clear hcc hx hxj hfb hcl
            cases fb
            · go_wp2_with fail
              exact ⟨⟨j + 1, _, by omega, by go_num, rfl, ⟨by rw [← hnext.out]; rfl⟩, ⟨trivial⟩⟩, by simp [intOf]; omega⟩
            · go_wp2_with fail
              exact ⟨⟨j + 1, true, by omega, by go_num, rfl, ⟨by rw [← hnext.out]; rfl⟩, ⟨trivial⟩⟩, by simp [intOf]; omega⟩
          · obtain rfl : j = m := by omega
            have hfbm : Box (fb = hasP Q p) := ⟨by rw [hfb.out, List.take_of_length_le (by rw [hmQ.out]; exact Nat.le_refl _)]⟩
            have hq := rinclusion_any k l pl a c wr hF2.out.pa h32.out.fit
            unfold RowsE at hq
            obtain ⟨IE, hIE⟩ : ∃ IE, incE l pl = IE := ⟨_, rfl⟩
            rw [hIE] at hq
            have hIl := incL_len' l pl (by rw [hll.out]; omega)
            clear hfb hcl hmQ hIE
            rcases hc2.out with ⟨rfl, hP, hno⟩ | ⟨rfl, hP, hyes⟩
            · rw [hasP_no hno] at hfbm
              obtain rfl := hfbm.out
              subst hP
              clear hno hc2
              go_wp2_with fail
              refine hq.mono ?_
              clear hq
              rintro e w8 ⟨v8, rfl, hT8, hb8⟩
              have hs := same_any v2 v8 (incL l pl) (incL l pl) w8 (hT2.out.here hb8).parts hT8.parts (by unfold maxLen; omega)
              rw [texB_self'] at hs
              replace hF2 := Box.mk (hF2.out.here hb8)
              clear hT8 hb8 hT2 hIl
              go_wp2_with fail
              refine hs.mono ?_
              clear hs
              rintro e w9 ⟨rfl, hb9⟩
              have hX9 := Box.mk (hnx.out _ _ (hF2.out.here hb9))
              clear hb9 hF2 hnx
              go_wp2_with fail
              exact ⟨⟨i + 1, by omega, by go_num, hX9⟩, by simp [intOf]; omega⟩
            · rw [hasP_iff.2 hyes] at hfbm
              obtain rfl := hfbm.out
              subst hP
              obtain ⟨a2, c2, rfl⟩ := hT2.out.shape
              clear hyes hc2 hT2 hIl
              go_wp2_with fail
              refine hq.mono ?_
              clear hq
              rintro e w8 ⟨v8, rfl, hT8, hb8⟩
              have hX9 := Box.mk (hnx.out _ _ (hF2.out.here hb8))
              clear hT8 hb8 hF2 hnx
              go_wp2_with fail
              exact ⟨⟨i + 1, by omega, by go_num, hX9⟩, by simp [intOf]; omega⟩
      · replace hF := Box.mk hF
        clear hrr hr1
        obtain ⟨va3, hbk3, _⟩ := hF.out.blk
        have c3 := hbk3.cell 3
        have f3 := hbk3.free 3
        simp only [List.getElem?_cons_zero, List.getElem?_cons_succ] at c3
        have hI := fm_inc pl hK.out h32.out (by omega) hplk hll.out hF.out.reset
        unfold flV at hI
        clear hF hbk3
        go_wp2_with fail
        refine hI.mono ?_
        clear hI c3 f3
        rintro e w7 ⟨A2, v2, P2, E2, rfl, hF2, hT2, hA2, hc2⟩
        obtain ⟨vb, hbk4, hTb⟩ := hF2.blk
        obtain ⟨aq, cq, rfl⟩ := hTb.shape
        have c3 := hbk4.cell 3
        simp only [List.getElem?_cons_zero, List.getElem?_cons_succ] at c3
        obtain ⟨m, hm⟩ : ∃ m, (A2.map tlp).length = m := ⟨_, rfl⟩
        have hm4 : m ≤ 4096 := by rw [← hm]; simp; exact hA2
        rw [hm] at c3 hTb
        have hcl := Box.mk (hTb.pa hm).at_
        obtain ⟨Q, hQ⟩ : ∃ Q, A2.map tlp = Q := ⟨_, rfl⟩
        rw [hQ] at hcl hc2
        have hmQ := Box.mk (show Q.length = m by rw [← hQ]; exact hm)
        replace hF2 := Box.mk hF2
        replace hT2 := Box.mk (hT2.base (Nat.zero_le _))
        replace hc2 := Box.mk hc2
        clear hbk4 hTb hm hA2 hQ
        go_wp2_with fail
        have hfb0 : Box (false = hasP (Q.take 0) p) := ⟨rfl⟩
        go_loopw [18, 20, 111] (fun v18 _ v111 wr => ∃ (j : Nat) (fb : Bool), j ≤ m ∧ v111 = .int .i64 (j : Int) ∧ v18 = .bool fb ∧ Box (fb = hasP (Q.take j) p) ∧ Box (wr = w7)) (fun _ _ v111 _ => m - (intOf v111).toNat)
        case atStart => exact ⟨0, false, by omega, rfl, rfl, hfb0, ⟨rfl⟩⟩
        case round =>
          clear hfb0 c3
          obtain ⟨j, fb, hj, rfl, rfl, hfb, hww⟩ := hrel
          obtain rfl := hww.out
          clear hww
          by_cases hjl : j < m
          · obtain ⟨ga, off, rfl, hga, hcc⟩ := hcl.out (by omega)
            have e1 := hcc j hjl
            obtain ⟨x, hx⟩ : ∃ x, Q.getD j ByteArray.empty = x := ⟨_, rfl⟩
            rw [hx] at e1
            have hxj : Q[j]? = some x := by
              have : j < Q.length := by rw [hmQ.out]; exact hjl
              rw [← hx]; simp [List.getD, this]
            have hnext : Box ((fb || (x.toList == p.toList)) = hasP (Q.take (j + 1)) p) := ⟨by
              rw [tl_eq, hfb.out, List.take_add_one, hxj]
              exact (hasP_snoc _ _ _).symm⟩
            clear hcc hx hxj hfb hcl
            cases fb
            · go_wp2_with fail
              exact ⟨⟨j + 1, _, by omega, by go_num, rfl, ⟨by rw [← hnext.out]; rfl⟩, ⟨trivial⟩⟩, by simp [intOf]; omega⟩
            · go_wp2_with fail
              exact ⟨⟨j + 1, true, by omega, by go_num, rfl, ⟨by rw [← hnext.out]; rfl⟩, ⟨trivial⟩⟩, by simp [intOf]; omega⟩
          · obtain rfl : j = m := by omega
            have hfbm : Box (fb = hasP Q p) := ⟨by rw [hfb.out, List.take_of_length_le (by rw [hmQ.out]; exact Nat.le_refl _)]⟩
            have hq := rinclusion_any k l pl a c wr hF2.out.pa h32.out.fit
            unfold RowsE at hq
            obtain ⟨IE, hIE⟩ : ∃ IE, incE l pl = IE := ⟨_, rfl⟩
            rw [hIE] at hq
            have hIl := incL_len' l pl (by rw [hll.out]; omega)
            clear hfb hcl hmQ hIE
            rcases hc2.out with ⟨rfl, hP, hno⟩ | ⟨rfl, hP, hyes⟩
            · rw [hasP_no hno] at hfbm
              obtain rfl := hfbm.out
              subst hP
              clear hno hc2
              go_wp2_with fail
              refine hq.mono ?_
              clear hq
              rintro e w8 ⟨v8, rfl, hT8, hb8⟩
              have hs := same_any v2 v8 (incL l pl) (incL l pl) w8 (hT2.out.here hb8).parts hT8.parts (by unfold maxLen; omega)
              rw [texB_self'] at hs
              replace hF2 := Box.mk (hF2.out.here hb8)
              clear hT8 hb8 hT2 hIl
              go_wp2_with fail
              refine hs.mono ?_
              clear hs
              rintro e w9 ⟨rfl, hb9⟩
              have hX9 := Box.mk (hnx.out _ _ (hF2.out.here hb9))
              clear hb9 hF2 hnx
              go_wp2_with fail
              exact ⟨⟨i + 1, by omega, by go_num, hX9⟩, by simp [intOf]; omega⟩
            · rw [hasP_iff.2 hyes] at hfbm
              obtain rfl := hfbm.out
              subst hP
              obtain ⟨a2, c2, rfl⟩ := hT2.out.shape
              clear hyes hc2 hT2 hIl
              go_wp2_with fail
              refine hq.mono ?_
              clear hq
              rintro e w8 ⟨v8, rfl, hT8, hb8⟩
              have hX9 := Box.mk (hnx.out _ _ (hF2.out.here hb8))
              clear hT8 hb8 hF2 hnx
              go_wp2_with fail
              exact ⟨⟨i + 1, by omega, by go_num, hX9⟩, by simp [intOf]; omega⟩
    · obtain rfl : i = 2 := by omega
      go_wp2_with fail
      go_ret
      exact ⟨rfl, hX.out.bel⟩
end Go.Proofs.YtlkopllpadhnlaaDoor
