/- The document's All: the tiles of a number. | TilesRoots: out of a list's tiles alone come its root and every proof; no other files are asked for. -/
import Derived.Test.YtlkopllpadhnlaaDoorMUe
import Derived.Test.YtlkopllpadhnlaaDoorTiY
namespace Go.Proofs.YtlkopllpadhnlaaDoor
open Go Go.RowKit

theorem info_tld : (Tryd.prog.info? 26).map (fun i => (i.zero, i.size, i.bytes)) = some (some (.agg #[.int .i64 0, .int .i64 0, .int .i64 0]), 3, 24) := by kernel_rfl
set_option maxHeartbeats 6400000 in
set_option maxRecDepth 100000 in
theorem dall_any (n : Nat) (w : World) (hn1 : 1 ≤ n) (hn : n ≤ 1024) :
    Calls Tryd.prog 19 #[.int .i64 (n : Int)] w (AllIs 26 w (allT n)) := by
  have hS0 : Box (AlAt 26 w w (.slice none 0 0) (allL n 0)) := ⟨⟨⟨Pk.Row.nil _ _ _, fun k hk => (by cases hk)⟩, Below.refl _ _⟩⟩
  have hN := Box.mk (fun L w' => dnodes_any n L w')
  have hWd := Box.mk (fun L I w' => dwidth_any n L I w' (by omega))
  obtain ⟨i0, hi0, hz0, hz1, hz2⟩ := info_parts info_tld
  have hH := Box.mk (And.intro hi0 (And.intro hz0 (And.intro hz1 hz2)))
  clear hi0 hz0 hz1 hz2
  go_enter Tryd.func19, Tryd.ntmps19
  go_wp2_with fail
  go_loopw [3, 4, 5] (fun v3 v4 _ wr => ∃ L : Nat, L ≤ 6 ∧ v4 = .int .i64 (L : Int) ∧ Box (AlAt 26 w wr v3 (allL n L))) (fun _ v4 _ _ => 6 - (intOf v4).toNat)
  case atStart => exact ⟨0, by omega, rfl, hS0⟩
  case round =>
    clear hS0
    obtain ⟨L, hL, rfl, hA⟩ := hrel
    obtain ⟨a, c, rfl⟩ := hA.out.r.row.shape
    have hN1 := hN.out L wr (by omega)
    have hnl := nodN_le n L
    by_cases h0 : nodN n L = 0
    · rw [h0] at hN1
      have he := Box.mk (allL_end n hn (6 - L) L (by omega) h0)
      clear hN hWd hH
      go_wp2_with fail
      refine hN1.mono ?_
      rintro e w1 ⟨rfl, hw1⟩
      subst hw1
      clear hN1
      go_wp2_with fail
      go_ret
      exact ⟨_, rfl, by rw [← he.out]; exact hA.out.r, hA.out.bel⟩
    · have hL6 : L < 6 := by
        rcases Nat.lt_or_ge L 6 with h | h
        · exact h
        · obtain rfl : L = 6 := by omega
          exact absurd (nod6 hn) h0
      obtain ⟨N, hNe⟩ : ∃ N, nodN n L = N := ⟨_, rfl⟩
      rw [hNe] at hN1 hnl h0
      have hal := Box.mk (allL_len hn L)
      have hpos : (0 : Int) < (N : Int) := by omega
      go_wp2_with fail
      refine hN1.mono ?_
      rintro e w1 ⟨rfl, hw1⟩
      subst hw1
      clear hN1
      go_wp2_with fail
      obtain ⟨C, hC⟩ : ∃ C, (N + 3) / 4 = C := ⟨_, rfl⟩
      have hlv := Box.mk (show lvlI n L C = lvlT n L by unfold lvlI lvlT; rw [hNe, hC])
      have hwp : Box (∀ I, I < C → ((widN n L I).toNat : Int) = max 0 (widN n L I) ∧ 0 < (widN n L I).toNat) := ⟨fun I hI => by
        have : widN n L I = min 4 ((nodN n L : Int) - (I : Int) * 4) := rfl
        rw [hNe] at this
        omega⟩
      have hw0 : Box (max 0 (widN n L C) = 0) := ⟨by
        have : widN n L C = min 4 ((nodN n L : Int) - (C : Int) * 4) := rfl
        rw [hNe] at this
        omega⟩
      have hS1 : Box (AlAt 26 w wr (.slice a (allL n L).length c) (allL n L ++ lvlI n L 0)) := ⟨by rw [show lvlI n L 0 = [] from rfl, List.append_nil]; exact hA.out⟩
      have hC256 : C ≤ 256 := by omega
      have hp2 : 0 < N := by omega
      simp only [hp2, decide_true]
      clear hN hA hpos hNe hC hp2
      go_loopw [3, 5] (fun v3 v5 wr => ∃ I : Nat, I ≤ C ∧ v5 = .int .i64 (I : Int) ∧ Box (AlAt 26 w wr v3 (allL n L ++ lvlI n L I))) (fun _ v5 _ => C - (intOf v5).toNat)
      case atStart => exact ⟨0, by omega, rfl, hS1⟩
      case round =>
        clear hS1
        obtain ⟨I, hI, rfl, hA⟩ := hrel
        obtain ⟨a2, c2, rfl⟩ := hA.out.r.row.shape
        have hlI : (lvlI n L I).length = I := by unfold lvlI; simp
        obtain ⟨m, hm⟩ : ∃ m, (allL n L ++ lvlI n L I).length = m := ⟨_, rfl⟩
        have hm2 : m ≤ 8000 := by rw [← hm, List.length_append, hlI]; have := hal.out; omega
        have hW := hWd.out L I wr (by omega) (by omega)
        by_cases hlt : I < C
        · rw [← (hwp.out I hlt).1] at hW
          have hW0 := (hwp.out I hlt).2
          obtain ⟨W, hWe⟩ : ∃ W, (widN n L I).toNat = W := ⟨_, rfl⟩
          have hnx := Box.mk (lvlI_next n L I)
          rw [hWe] at hW hnx hW0
          rw [hm] at hA ⊢
          have hii : (0 : Int) < (W : Int) := by omega
          replace hm := Box.mk hm
          clear hWe hlI
          go_wp2_with fail
          refine hW.mono ?_
          rintro e w1 ⟨rfl, hw1⟩
          subst hw1
          go_wp2_with fail
          refine hW.mono ?_
          clear hW
          rintro e w1 ⟨rfl, hw1⟩
          subst hw1
          have hal1 := bel_alloc wr (.cells #[.int .i64 (L : Int), .int .i64 (I : Int), .int .i64 (W : Int)] 26)
          have hA2 := Box.mk (show AlAt 26 w _ (.slice a2 m c2) (allL n L ++ lvlI n L I) from ⟨hA.out.r.here hal1, mono_bel hA.out.bel hal1 (Nat.le_refl _)⟩)
          have hP := Box.mk (Pk.Blk.new wr [.int .i64 (L : Int), .int .i64 (I : Int), .int .i64 (W : Int)] 26)
          have hrow := hA2.out.r.row
          rw [hm.out] at hrow
          replace hrow := Box.mk hrow
          clear hal1 hA
          go_wp2_with (at_builtin; refine Pk.wpList_pushR rfl (.tmp 26) (.tmp 34) 33 26 rfl i0 (.agg #[.int .i64 0, .int .i64 0, .int .i64 0]) 3 24 Tryd.underlying33 hH.out.1 hH.out.2.1 hH.out.2.2.1 hH.out.2.2.2 rfl (by decide) _ m (tlsC (allL n L ++ lvlI n L I)) rfl hrow.out ⟨wr.heap.size, 0, none⟩ 1 1 (tlC ⟨L, I, W⟩) rfl rfl (fun j u hj => by rw [show (⟨wr.heap.size, 0, none⟩ : Addr).add j = ⟨wr.heap.size, j, none⟩ by unfold Addr.add; split <;> simp_all]; rw [Pk.Blk.cell hP.out j]; exact hj) (fun u hu => by simp only [tlC, List.mem_cons, List.not_mem_nil, or_false] at hu; rcases hu with rfl | rfl | rfl <;> rfl) (by unfold maxLen; omega) (by omega) ?_)
          rintro v2 w2 hp
          replace hp : Pk.PushedRow (wr.alloc (.cells #[.int .i64 (L : Int), .int .i64 (I : Int), .int .i64 (W : Int)] 26)) 26 3 (.slice a2 m c2) ((allL n L ++ lvlI n L I).length + 1) (tlsC (allL n L ++ lvlI n L I) ++ tlC ⟨L, I, W⟩) v2 w2 := by rw [hm.out]; exact hp
          have hA3 : Box (AlAt 26 w w2 v2 (allL n L ++ lvlI n L (I + 1))) := ⟨by rw [hnx.out, ← List.append_assoc]; exact hA2.out.push hp⟩
          clear hp hA2 hP hrow
          go_wp2_with fail
          exact ⟨⟨I + 1, by omega, by go_num, hA3⟩, by simp [intOf]; omega⟩
        · obtain rfl : I = C := by omega
          rw [hw0.out] at hW
          have hA4 : Box (AlAt 26 w wr (.slice a2 (allL n L ++ lvlI n L I).length c2) (allL n (L + 1))) := ⟨by rw [allL_next, ← hlv.out]; exact hA.out⟩
          rw [hm] at hA4 ⊢
          clear hA hm hw0 hwp
          go_wp2_with fail
          refine hW.mono ?_
          clear hW
          rintro e w1 ⟨rfl, hw1⟩
          subst hw1
          go_wp2_with fail
          exact ⟨⟨L + 1, by omega, by go_num, hA4⟩, by simp [intOf]; omega⟩
set_option maxHeartbeats 1600000 in
set_option maxRecDepth 100000 in
theorem dall_none (n : Int) (w : World) (hn : n < 1 ∨ 1024 < n) :
    Calls Tryd.prog 19 #[.int .i64 n] w fun e w' => e = .returned (.slice none 0 0) ∧ w = w' := by
  by_cases h1 : n < 1
  · clear hn
    go_enter Tryd.func19, Tryd.ntmps19
    go_wp2_with fail
    go_ret
    exact ⟨rfl, rfl⟩
  · have h2 : 1024 < n := by omega
    clear hn
    go_enter Tryd.func19, Tryd.ntmps19
    go_wp2_with fail
    go_ret
    exact ⟨rfl, rfl⟩
end Go.Proofs.YtlkopllpadhnlaaDoor

namespace Go.Proofs.YtlkopllpadhnlaaDoor
open Go Go.RowKit

theorem texB_self' (l : List ByteArray) : texB l l = true := by simp [texB]
theorem incL_len' (l : List ByteArray) (z : Int) (hl : l.length ≤ 9223372036854775807) : (incL l z).length ≤ 63 := by
  unfold incL
  split
  · exact placeL_63 hl _
  · exact Nat.zero_le _
theorem conL_len' (l : List ByteArray) (z : Int) (hl : l.length ≤ 9223372036854775807) : (conL l z).length ≤ 64 := by
  unfold conL
  split
  · exact partL_64 hl _ _
  · exact Nat.zero_le _
theorem tlsC_at : ∀ (ts : List Tl) (i : Nat) (t : Tl), ts[i]? = some t → ∀ j, j < 3 → (tlsC ts)[i * 3 + j]? = (tlC t)[j]?
  | [], i, t, h, _, _ => by simp at h
  | q :: ts, 0, t, h, j, hj => by
    obtain rfl : q = t := by simpa using h
    rw [tlsC, List.flatMap_cons, Nat.zero_mul, Nat.zero_add, List.getElem?_append_left (by simpa [tlC] using hj)]
  | q :: ts, i + 1, t, h, j, hj => by
    rw [tlsC, List.flatMap_cons, List.getElem?_append_right (by simp [tlC]; omega), ← tlsC, show (tlC q).length = 3 from rfl, show (i + 1) * 3 + j - 3 = i * 3 + j by omega]
    exact tlsC_at ts i t (by simpa using h) j hj
theorem tln_pos {n : Nat} {t : Tl} (h : TlN n t) : 1 ≤ n := by
  obtain ⟨⟨_, _, h3, _⟩, h5⟩ := h
  have h6 : widN n t.L t.I = min 4 ((nodN n t.L : Int) - (t.I : Int) * 4) := rfl
  have h7 := nodN_le n t.L
  omega
theorem tln_all {n : Nat} {t : Tl} (h : TlN n t) : t ∈ allT n := by
  obtain ⟨⟨h1, _, h3, _⟩, h5⟩ := h
  have h6 : widN n t.L t.I = min 4 ((nodN n t.L : Int) - (t.I : Int) * 4) := rfl
  unfold allT allL
  refine List.mem_flatMap.2 ⟨t.L, List.mem_range.2 (by omega), ?_⟩
  unfold lvlT
  refine List.mem_map.2 ⟨t.I, List.mem_range.2 (by omega), ?_⟩
  obtain ⟨L, I, W⟩ := t
  simp only [Tl.mk.injEq, true_and]
  simp only at h5
  omega
theorem allT_ok {n : Nat} (hn : n ≤ 1024) {t : Tl} (h : t ∈ allT n) : TlN n t := by
  unfold allT allL at h
  obtain ⟨L, hL, h2⟩ := List.mem_flatMap.1 h
  rw [List.mem_range] at hL
  unfold lvlT at h2
  obtain ⟨I, hI, rfl⟩ := List.mem_map.1 h2
  rw [List.mem_range] at hI
  have h6 : widN n L I = min 4 ((nodN n L : Int) - (I : Int) * 4) := rfl
  have h7 := nodN_le n L
  exact ⟨⟨show L ≤ 5 by omega, show I ≤ 255 by omega, show 1 ≤ (widN n L I).toNat by omega, show (widN n L I).toNat ≤ 4 by omega⟩, show (((widN n L I).toNat : Nat) : Int) = widN n L I by omega⟩
theorem TlR.cell {ty : TypeId} {B : Nat} {w : World} {gt c m : Nat} {ts : List Tl} (h : TlR ty B w (.slice (some ⟨gt, 0, none⟩) m c) ts) (hm : ts.length = m) {i : Nat} (hi : i < m) :
    w.cell? ⟨gt, i * 3, none⟩ = some (.int .i64 ((ts[i]'(by omega)).L : Int)) ∧ w.cell? ⟨gt, i * 3 + 1, none⟩ = some (.int .i64 ((ts[i]'(by omega)).I : Int)) ∧ w.cell? ⟨gt, i * 3 + 2, none⟩ = some (.int .i64 ((ts[i]'(by omega)).W : Int)) := by
  subst hm
  have h0 : ts[i]? = some ts[i] := List.getElem?_eq_getElem hi
  exact ⟨h.row.cells (i * 3) _ (tlsC_at ts i _ h0 0 (by decide)), h.row.cells (i * 3 + 1) _ (tlsC_at ts i _ h0 1 (by decide)), h.row.cells (i * 3 + 2) _ (tlsC_at ts i _ h0 2 (by decide))⟩
/-- What was asked for, kept in a row. -/
structure AskQ (w0 w : World) (va : Value) (P : List ByteArray) : Prop where
  tx : TxR w0.heap.size w va P
  bel : Below w0.heap.size w0 w
theorem AskQ.here {w0 w w' : World} {va : Value} {P : List ByteArray} (h : AskQ w0 w va P) (hb : Below w.heap.size w w') : AskQ w0 w' va P := ⟨h.tx.here hb, mono_bel h.bel hb (Nat.le_refl _)⟩
theorem GS.askq {w0 w1 w : World} {a : Option Addr} {n c : Nat} {l : List ByteArray} {gone long : ByteArray} {g : Nat} {rs : List (Value × List ByteArray)} {A : List Tl} (h : GS w1 a n c l gone long g rs A w) (hb : Below w0.heap.size w0 w1) :
    ∃ va, w.cell? ⟨g, 3, none⟩ = some va ∧ AskQ w0 w va (A.map tlp) := by
  obtain ⟨F, ⟨⟨va, hbk, hT, _⟩, _, _⟩, _⟩ := h.fl
  exact ⟨va, hbk.cell 3, hT.base hb.size, mono_bel hb h.bel (Nat.le_refl _)⟩
set_option maxHeartbeats 12800000 in
set_option maxRecDepth 100000 in
theorem law_roots (n0 : Nat) (z y : Int) (W : World) (hL : Ld W.heap.size W) (h0 : n0 < 256) :
    Calls Tryd.prog 5 #[.int .u8 (n0 : Int), .int .i64 z, .int .i64 y] W fun e W' => e = .returned (.bool true) ∧ Below W.heap.size W W' := by
  have hR := reads_any W.heap.size W hL (Nat.le_refl _)
  obtain ⟨k, hk⟩ : ∃ k, n0 % 90 = k := ⟨_, rfl⟩
  have hk1 : (n0 : Int) % 90 = (k : Int) := by omega
  have hkl : k < 90 := by omega
  have hLv := Box.mk (fun w => leavesT_any k w (by omega))
  unfold LeavesT at hLv
  replace hL := Box.mk hL
  clear hk
  go_enter Tryd.func5, Tryd.ntmps5
  go_wp2_with fail
  refine hR.mono ?_
  clear hR
  rintro e w1 ⟨rfl, hb1⟩
  have hL1 := hL.out.here hb1 (Nat.le_refl _)
  replace hb1 := Box.mk hb1
  go_wp2_with fail
  refine (hLv.out w1).mono ?_
  clear hLv
  rintro e w2 ⟨v, l, rfl, hll, h32, hT, hb2⟩
  obtain ⟨a, c, rfl⟩ := hT.shape
  rw [hll] at hT ⊢
  have h32' : All32 l := h32
  have htk : l.take k = l := List.take_of_length_le (by rw [hll]; exact Nat.le_refl _)
  have hS0 := gs_new (hL1.up hb1.out.size) hT hll hb2 ByteArray.empty ByteArray.empty
  obtain ⟨W1, hW1⟩ : ∃ W1, w2.alloc (.cells #[.slice a k c, .string ByteArray.empty, .string ByteArray.empty, .slice none 0 0] 46) = W1 := ⟨_, rfl⟩
  obtain ⟨g, hg⟩ : ∃ g, w2.heap.size = g := ⟨_, rfl⟩
  rw [hW1, hg] at hS0
  have hR1 := groot k W1 hS0 h32' (by omega) hll (Nat.le_refl _) (by simp)
  rw [htk] at hR1
  unfold flV at hR1
  replace hW1 := Box.mk hW1
  replace hg := Box.mk hg
  replace h32 := Box.mk h32'
  replace hll := Box.mk hll
  replace htk := Box.mk htk
  have hl63 : Box (l.length ≤ 9223372036854775807) := ⟨by rw [hll.out]; omega⟩
  have hcap := (hT.pa hll.out).cap
  have htop := (hT.pa hll.out).top
  clear hT hL1 hb2 h32' hS0
  go_wp2_with fail
  rw [show w2.alloc (.cells #[.slice a k c, .string ⟨#[]⟩, .string ⟨#[]⟩, .slice none 0 0] 46) = W1 from hW1.out, hg.out]
  refine hR1.mono ?_
  clear hR1 hW1 hg
  rintro e w3 ⟨A1, rfl, hS1, hA1, hA1l⟩
  have hR2 := ginc k z w3 hS1 h32.out (by omega) hll.out (Nat.le_refl _) (by simp; omega)
  have s1 := incL_len' l z hl63.out
  have s2 := conL_len' l y hl63.out
  rw [htk.out] at hR2
  obtain ⟨r1, hr1⟩ : ∃ r, rootL l = r := ⟨_, rfl⟩
  obtain ⟨I, hI⟩ : ∃ I, incL l z = I := ⟨_, rfl⟩
  obtain ⟨J, hJ⟩ : ∃ J, incE l z = J := ⟨_, rfl⟩
  obtain ⟨C, hC⟩ : ∃ C, conL l y = C := ⟨_, rfl⟩
  obtain ⟨D, hD⟩ : ∃ D, conE l y = D := ⟨_, rfl⟩
  rw [hI] at s1
  rw [hC] at s2
  rw [hI, hJ] at hR2
  rw [hr1]
  unfold flV at hR2
  replace hA1 := Box.mk hA1
  replace hr1 := Box.mk hr1
  replace hI := Box.mk hI
  replace hJ := Box.mk hJ
  replace hC := Box.mk hC
  replace hD := Box.mk hD
  clear hS1
  go_wp2_with fail
  refine hR2.mono ?_
  clear hR2
  rintro e w4 ⟨A2, v3, rfl, hS2, hA2, hA2l⟩
  have h1 := rinclusion_any k l z a c w4 hS2.pa h32.out.fit
  rw [hI.out, hJ.out] at h1
  unfold RowsE at h1
  replace hS2 := Box.mk hS2
  replace hA2 := Box.mk hA2
  go_wp2_with fail
  refine h1.mono ?_
  clear h1
  rintro e w5 ⟨v4, rfl, hT4, hb5⟩
  have hS3 := hS2.out.add hb5 hT4
  have hR2 := gcon k y w5 hS3 h32.out (by omega) hll.out (Nat.le_refl _) (by simp; omega)
  rw [htk.out, hC.out, hD.out] at hR2
  unfold flV at hR2
  clear hS2 hT4 hb5 hS3
  go_wp2_with fail
  refine hR2.mono ?_
  clear hR2
  rintro e w6 ⟨A3, v5, rfl, hS4, hA3, hA3l⟩
  have h1 := rconsistency_any k l y a c w6 hS4.pa h32.out.fit
  rw [hC.out, hD.out] at h1
  unfold RowsE at h1
  replace hS4 := Box.mk hS4
  replace hA3 := Box.mk hA3
  go_wp2_with fail
  refine h1.mono ?_
  clear h1
  rintro e w7 ⟨v6, rfl, hT6, hb7⟩
  have hS5 := Box.mk (hS4.out.add hb7 hT6)
  have h1 := rroot_any k l a c w7 hS5.out.pa h32.out.fit
  rw [hr1.out] at h1
  have hrq : (r1.toList == r1.toList) = true := by simp
  clear hS4 hT6 hb7 hr1 hI hJ hC hD h32 htk hl63
  go_wp2_with fail
  refine h1.mono ?_
  clear h1
  rintro e w8 ⟨rfl, hb8⟩
  have hS6 := Box.mk (hS5.out.here hb8)
  have h1 := same_any v3 v4 I I w8 (hS6.out.rows (v3, I) (by simp)).parts (hS6.out.rows (v4, I) (by simp)).parts (by unfold maxLen; omega)
  rw [texB_self'] at h1
  clear hS5 hb8
  go_wp2_with fail
  refine h1.mono ?_
  clear h1
  rintro e w9 ⟨rfl, hb9⟩
  have hS7 := Box.mk (hS6.out.here hb9)
  have h1 := same_any v5 v6 C C w9 (hS7.out.rows (v5, C) (by simp)).parts (hS7.out.rows (v6, C) (by simp)).parts (by unfold maxLen; omega)
  rw [texB_self'] at h1
  clear hS6 hb9
  go_wp2_with fail
  refine h1.mono ?_
  clear h1
  rintro e w10 ⟨rfl, hb10⟩
  have hS8 := hS7.out.here hb10
  obtain ⟨va, c3, hQ⟩ := hS8.askq hb1.out
  have hAll : ∀ t ∈ [] ++ A1 ++ A2 ++ A3, TlN k t := fun t ht => by
    rcases List.mem_append.1 ht with ht | ht
    · rcases List.mem_append.1 ht with ht | ht
      · exact hA1.out t (by simpa using ht)
      · exact hA2.out t ht
    · exact hA3.out t ht
  have hPl : (([] ++ A1 ++ A2 ++ A3).map tlp).length ≤ 20000 := by simp; omega
  obtain ⟨A, hA⟩ : ∃ A, [] ++ A1 ++ A2 ++ A3 = A := ⟨_, rfl⟩
  rw [hA] at hQ hAll hPl
  obtain ⟨aq, cq, rfl⟩ := hQ.tx.shape
  obtain ⟨m, hm⟩ : ∃ m, (A.map tlp).length = m := ⟨_, rfl⟩
  rw [hm] at c3 hQ hPl
  replace hm := Box.mk hm
  replace hAll := Box.mk hAll
  replace hQ := Box.mk hQ
  clear hb10 hS7 hS8 hA hA1 hA2 hA3 hA1l hA2l hA3l hb1
  go_wp2_with fail
  go_loopw [21, 22, 105] (fun _ _ v105 wr => ∃ i : Nat, i ≤ m ∧ v105 = .int .i64 (i : Int) ∧ Box (AskQ W wr (.slice aq m cq) (A.map tlp))) (fun _ _ v105 _ => m - (intOf v105).toNat)
  case atStart => exact ⟨0, by omega, rfl, hQ⟩
  case round =>
    clear hQ c3
    obtain ⟨i, hi, rfl, hQ⟩ := hrel
    by_cases hlt : i < m
    · have hAl : i < A.length := by have := hm.out; simp at this; omega
      obtain ⟨ga, off, rfl, hga, hcl⟩ := (hQ.out.tx.pa hm.out).at_ (by omega)
      have e1 := hcl i hlt
      obtain ⟨t, ht⟩ : ∃ t, A[i]'hAl = t := ⟨_, rfl⟩
      have hgd : (A.map tlp).getD i ByteArray.empty = tlp t := by simp [List.getD, hAl, ht]
      rw [hgd] at e1
      have htN : TlN k t := hAll.out t (by rw [← ht]; exact List.getElem_mem _)
      have hk0 := tln_pos htN
      have hmem := Box.mk (tln_all htN)
      have hD := dall_any k wr hk0 (by omega)
      unfold AllIs at hD
      obtain ⟨p, hp⟩ : ∃ p, tlp t = p := ⟨_, rfl⟩
      rw [hp] at e1
      replace hp := Box.mk hp
      clear hcl hgd htN ht hAl
      go_wp2_with fail
      refine hD.mono ?_
      clear hD
      rintro e w11 ⟨vt, rfl, hTl, hb11⟩
      have hM0 : 0 < (allT k).length := List.length_pos_of_mem hmem.out
      obtain ⟨gt, ct, rfl, hgt⟩ := hTl.row.some hM0
      obtain ⟨M, hM⟩ : ∃ M, (allT k).length = M := ⟨_, rfl⟩
      have hQ1 := Box.mk (hQ.out.here hb11)
      have hM8 : M ≤ 8000 := by rw [← hM]; have := allL_len (n := k) (by omega) 6; unfold allT; omega
      rw [hM] at hTl ⊢
      have hLd := Box.mk (fun w' (h : AskQ W w' (.slice (some ⟨ga, off, none⟩) m cq) (A.map tlp)) => hL.out.here h.bel (Nat.le_refl _))
      replace hTl := Box.mk hTl
      replace hM := Box.mk hM
      clear e1 hQ hb11 hga
      go_wp2_with fail
      have hI0 : Box (∀ q, q < 0 → ∀ u, (allT k)[q]? = some u → tlp u = p → false = true) := ⟨fun q hq => by omega⟩
      go_loopw [22, 112] (fun v22 v112 wr => ∃ (j : Nat) (fb : Bool), j ≤ M ∧ v112 = .int .i64 (j : Int) ∧ v22 = .bool fb ∧ Box (∀ q, q < j → ∀ u, (allT k)[q]? = some u → tlp u = p → fb = true) ∧ Box (TlR 26 0 wr (.slice (some ⟨gt, 0, none⟩) M ct) (allT k)) ∧ Box (AskQ W wr (.slice (some ⟨ga, off, none⟩) m cq) (A.map tlp))) (fun _ v112 _ => M - (intOf v112).toNat)
      case atStart => exact ⟨0, false, by omega, rfl, rfl, hI0, ⟨⟨hTl.out.row, fun k hk => Nat.zero_le _⟩⟩, hQ1⟩
      case round =>
        clear hTl hQ1 hI0 hgt
        obtain ⟨j, fb, hj, rfl, rfl, hfb, hTl, hQ⟩ := hrel
        by_cases hjl : j < M
        · obtain ⟨e0, e1, e2⟩ := hTl.out.cell hM.out hjl
          obtain ⟨u, hu⟩ : ∃ u, (allT k)[j]'(by rw [hM.out]; exact hjl) = u := ⟨_, rfl⟩
          rw [hu] at e0 e1 e2
          have huj : Box ((allT k)[j]? = some u) := ⟨by rw [← hu]; exact List.getElem?_eq_getElem _⟩
          have hgt : gt < wr.heap.size := hTl.out.row.lt gt rfl
          have hD := fun w' (hb : Below wr.heap.size wr w') => dpath_any u.L u.I u.W W.heap.size w' (hLd.out w' (hQ.out.here hb)) (hQ.out.here hb).bel.size
          have hpu : pathT u.L u.I u.W = tlp u := rfl
          simp only [hpu] at hD
          obtain ⟨pu, hpu2⟩ : ∃ pu, tlp u = pu := ⟨_, rfl⟩
          rw [hpu2] at hD
          unfold tv at hD
          replace hpu2 := Box.mk hpu2
          replace hD := Box.mk hD
          clear hu hpu
          cases fb
          · go_wp2_with fail
            refine (hD.out _ (bel_alloc _ _)).mono ?_
            clear hD e0 e1 e2
            rintro e w12 ⟨rfl, hb12⟩
            have hb13 := mono_bel (bel_alloc wr _) hb12 (Nat.le_refl _)
            have hTl2 := Box.mk (hTl.out.here hb13)
            have hQ2 := Box.mk (hQ.out.here hb13)
            have hpp : Box (∀ q, q < j + 1 → ∀ u, (allT k)[q]? = some u → tlp u = p → (pu.toList == p.toList) = true) := ⟨fun q hq u2 e he => by
              by_cases hqj : q < j
              · exact absurd (hfb.out q hqj u2 e he) (by decide)
              · obtain rfl : q = j := by omega
                rw [huj.out] at e
                cases e
                rw [← he, ← hpu2.out]
                simp⟩
            clear hb12 hb13 hTl hQ hfb huj hpu2
            go_wp2_with fail
            exact ⟨⟨j + 1, _, by omega, by go_num, rfl, hpp, hTl2, hQ2⟩, by simp [intOf]; omega⟩
          · have hTl2 := fun w' (hb : Below wr.heap.size wr w') => Box.mk (hTl.out.here hb)
            have hQ2 := fun w' (hb : Below wr.heap.size wr w') => Box.mk (hQ.out.here hb)
            clear hD
            go_wp2_with fail
            exact ⟨⟨j + 1, true, by omega, by go_num, rfl, ⟨fun q _ u _ _ => rfl⟩, hTl2 _ (bel_alloc _ _), hQ2 _ (bel_alloc _ _)⟩, by simp [intOf]; omega⟩
        · obtain rfl : j = M := by omega
          have hft : fb = true := by
            obtain ⟨q, hq, e⟩ := List.getElem_of_mem hmem.out
            exact hfb.out q (by rw [← hM.out]; exact hq) t (by rw [List.getElem?_eq_getElem hq, e]) hp.out
          subst hft
          clear hfb hM hp hmem hm hM0
          go_wp2_with fail
          exact ⟨⟨i + 1, by omega, by go_num, hQ⟩, by simp [intOf]; omega⟩
    · obtain rfl : i = m := by omega
      clear hm
      go_wp2_with fail
      go_ret
      exact ⟨rfl, hQ.out.bel⟩
end Go.Proofs.YtlkopllpadhnlaaDoor
