/- Walk of the law SpanProves. -/
import Derived.Test.YtakmlbnjgkfaiaaDoorSpV
import Derived.Test.YtakmlbnjgkfaiaaDoorTrX
namespace Go.Proofs.YtakmlbnjgkfaiaaDoor
open Go Go.RowKit

theorem conL64 {l : List ByteArray} (z : Int) (hl : l.length ≤ 9223372036854775807) : (conL l z).length ≤ 64 := by
  unfold conL
  split
  · exact partL_64 hl _ _
  · exact Nat.zero_le _
theorem enc80 (i : Nat) (hi : i < 80) : (Utf8.encode (48 + (i : Int))).size = 1 := by
  have h : ∀ j : Fin 80, (Utf8.encode (48 + ((j.val : Nat) : Int))).size = 1 := by decide +kernel
  exact h ⟨i, hi⟩
/-- The hashes of the leaves '0', '1' and so on. -/
def lvD (n : Nat) : List ByteArray := (List.range n).map fun i : Nat => leafH (Utf8.encode (48 + (i : Int)))
theorem lvD_succ (n : Nat) : lvD (n + 1) = lvD n ++ [leafH (Utf8.encode (48 + (n : Int)))] := by simp [lvD, List.range_succ]
theorem lvD_length (n : Nat) : (lvD n).length = n := by simp [lvD]
theorem lvD_32 (n : Nat) : ∀ x ∈ lvD n, x.size = 32 := fun x hx => by
  obtain ⟨i, _, rfl⟩ := List.mem_map.1 hx
  exact leafH_size _
theorem lvD_fit (n : Nat) : Fit (lvD n) := fun x hx => by rw [lvD_32 n x hx]; omega
theorem lvD_take (m n : Nat) (h : m ≤ n) : (lvD n).take m = lvD m := by
  rw [lvD, lvD, ← List.map_take, List.take_range, Nat.min_eq_left h]
theorem texB_same (l : List ByteArray) : texB l l = true := by simp [texB]
theorem partsR {B : Nat} {w w' : World} {v : Value} {ids : List ByteArray} (h : TxR B w v ids) (hb : Below w.heap.size w w') : PartsAt w' v ids := (h.here hb).parts
theorem fit_place' : ∀ (n : Nat) (l : List ByteArray) (m : Nat) (whole : Bool), l.length = n → Fit l → Fit (partL m l whole) := by
  intro n
  induction n using Nat.strongRecOn with
  | ind n ih =>
    intro l m whole hl hF
    by_cases hm : m = l.length
    · rw [partL_all m l whole hm]
      intro x hx
      cases whole with
      | true => rw [if_pos rfl] at hx; cases hx
      | false => rw [if_neg (by simp)] at hx; rw [List.mem_singleton.1 hx]; exact root_size l hF
    · by_cases h2 : 2 ≤ l.length
      · have hk := cutN_lt h2
        have hk0 := cutN_pos l.length
        obtain ⟨h3, h4⟩ := fit_node hF (cutN l.length)
        intro x hx
        by_cases hi : m ≤ cutN l.length
        · rw [partL_left m l whole h2 hm hi] at hx
          rcases List.mem_append.1 hx with h | h
          · exact ih (cutN l.length) (by omega) _ m whole (by simp; omega) (hF.take _) x h
          · rw [List.mem_singleton.1 h]; exact h4
        · rw [partL_right m l whole h2 hm (by omega)] at hx
          rcases List.mem_append.1 hx with h | h
          · exact ih (l.length - cutN l.length) (by omega) _ _ false (by simp) (hF.drop _) x h
          · rw [List.mem_singleton.1 h]; exact h3
      · rw [partL, if_neg hm, dif_pos (by omega)]
        intro x hx; cases hx
theorem fit_con' {l : List ByteArray} (h : Fit l) (z : Int) : Fit (conL l z) := by
  unfold conL
  split
  · exact fit_place' _ l _ true rfl h
  · intro x hx; cases hx
set_option maxHeartbeats 3200000 in
set_option maxRecDepth 100000 in
theorem law_proves (m n : Nat) (w : World) (hK : KIs w) (hT : TIs w) (hm : m ≤ 255) (hn : n ≤ 255) :
    Calls Tryd.prog 6 #[.int .u8 (m : Int), .int .u8 (n : Int)] w fun e w' => e = .returned (.bool true) ∧ Below w.heap.size w w' := by
  have hG := grows_any w hK hT
  have hmodm : (m : Int).tmod 40 = ((m % 40 : Nat) : Int) := by rw [Int.tmod_eq_emod_of_nonneg (by omega)]; omega
  have hmodn : (n : Int).tmod 40 = ((n % 40 : Nat) : Int) := by rw [Int.tmod_eq_emod_of_nonneg (by omega)]; omega
  obtain ⟨M, hM⟩ : ∃ M, m % 40 = M := ⟨_, rfl⟩
  obtain ⟨N, hN⟩ : ∃ N, n % 40 = N := ⟨_, rfl⟩
  have hM40 : M ≤ 39 := by omega
  have hN40 : N ≤ 39 := by omega
  rw [hM] at hmodm
  rw [hN] at hmodn
  replace hK := Box.mk hK
  replace hT := Box.mk hT
  clear hM hN
  go_enter Tryd.func6, Tryd.ntmps6
  go_wp2_with fail
  refine hG.mono ?_
  rintro e w1 ⟨rfl, hb1⟩
  clear hG
  have hS0 := Box.mk (GE.zero w w1 hb1)
  obtain ⟨w2, hw2⟩ : ∃ W, w1.alloc (.cells #[.int .i64 0, .slice none 0 0] 25) = W := ⟨_, rfl⟩
  rw [hw2] at hS0
  obtain ⟨g, hg⟩ : ∃ g, w1.heap.size = g := ⟨_, rfl⟩
  rw [hg] at hS0
  go_wp2_with fail
  clear hb1 hw2 hg
  go_loopw [6, 7, 18] (fun v6 _ v18 wr => ∃ i : Nat, i ≤ N ∧ v18 = .int .i64 (i : Int) ∧ Box (GE w wr g 0 (.slice none 0 0) (pkL []) v6 (lvD i) none)) (fun _ _ v18 _ => N - (intOf v18).toNat)
  case atStart => exact ⟨0, by omega, rfl, hS0⟩
  case round =>
    clear hS0
    obtain ⟨i, hi, rfl, hS⟩ := hrel
    obtain ⟨a, c, rfl⟩ := hS.out.a.shape
    have hil := lvD_length i
    obtain ⟨I, hI⟩ : ∃ I, lvD i = I := ⟨_, rfl⟩
    have hIs := lvD_succ i
    rw [hI] at hS hil hIs ⊢
    rw [hil] at hS ⊢
    by_cases hlt : i < N
    · have hii : (i : Int) < (N : Int) := by omega
      have hcv := run_convert_int_string (P := Tryd.prog) wr 21 9 .i32 (48 + (i : Int)) (by rw [Tryd.underlying21]; rfl) Tryd.underlying9
      have hz4 := enc80 i (by omega)
      obtain ⟨z, hz⟩ : ∃ z, Utf8.encode (48 + (i : Int)) = z := ⟨_, rfl⟩
      rw [hz] at hcv hz4 hIs
      have hLf := rleaf_any z wr (by omega)
      obtain ⟨y, hy⟩ : ∃ y, leafH z = y := ⟨_, rfl⟩
      rw [hy] at hLf hIs
      replace hIs := Box.mk hIs
      replace hil := Box.mk hil
      clear hy hz hI
      go_wp2_with fail
      refine hLf.mono ?_
      rintro e w3 ⟨rfl, hb3⟩
      clear hLf hcv
      have hS3 := Box.mk (hS.out.here hb3)
      have hpn := Box.mk (parts_new w3 [y] 9)
      clear hS hb3
      go_wp2_with (at_builtin; refine wpList_pushT rfl (.tmp 21) (.tmp 27) rfl w.heap.size _ I [y] rfl (hS3.out.a.here (bel_alloc _ _)) (by have := hS3.out.bel.size; simp; omega) (some ⟨w3.heap.size, 0, none⟩) 1 1 rfl rfl hpn.out (by rw [hil.out]; omega) ?_)
      rintro v4 w4 hp
      have hS4 := (hS3.out.here (bel_alloc _ _)).push hp
      rw [← hIs.out] at hS4
      replace hS4 := Box.mk hS4
      clear hp hS3 hpn
      go_wp2_with fail
      exact ⟨⟨i + 1, by omega, by go_num, hS4⟩, by simp [intOf]; omega⟩
    · obtain rfl : i = N := by omega
      have hnl : ¬ (i : Int) < (i : Int) := by omega
      obtain ⟨W, hW⟩ : ∃ W, wr = W := ⟨_, rfl⟩
      rw [hW] at hS ⊢
      have hS0 : Box (∃ v, GE w W g 0 v (pkL (lvD 0)) (.slice a i c) I none) := ⟨⟨_, hS.out⟩⟩
      replace hil := Box.mk hil
      replace hI := Box.mk hI
      clear hS hW hIs wr
      go_wp2_with fail
      go_loopw [8, 33] (fun _ v33 wr => ∃ j : Nat, j ≤ M ∧ v33 = .int .i64 (j : Int) ∧ Box (∃ v, GE w wr g j v (pkL (lvD j)) (.slice a i c) I none)) (fun _ v33 _ => M - (intOf v33).toNat)
      case atStart => exact ⟨0, by omega, rfl, hS0⟩
      case round =>
        clear hS0
        obtain ⟨j, hj, rfl, hS⟩ := hrel
        obtain ⟨v, hS⟩ := hS.out
        replace hS := Box.mk hS
        have hjl := lvD_length j
        have hjf := lvD_fit j
        have hjs := lvD_succ j
        have hKr := hK.out.below hS.out.bel hK.out.lt
        have hTr := hT.out.below hS.out.bel hT.out.lt
        by_cases hlt : j < M
        · have hii : (j : Int) < (M : Int) := by omega
          have hcv := run_convert_int_string (P := Tryd.prog) wr 21 9 .i32 (48 + (j : Int)) (by rw [Tryd.underlying21]; rfl) Tryd.underlying9
          have hz4 := enc80 j (by omega)
          obtain ⟨z, hz⟩ : ∃ z, Utf8.encode (48 + (j : Int)) = z := ⟨_, rfl⟩
          rw [hz] at hcv hz4 hjs
          have hLf := rleaf_any z wr (by omega)
          have hys := leafH_size z
          obtain ⟨y, hy⟩ : ∃ y, leafH z = y := ⟨_, rfl⟩
          rw [hy] at hLf hjs hys
          have hAp := Box.mk fun w' (hb : Below wr.heap.size wr w') => ge_append (hS.out.here hb) hjl y (hKr.up hb) (hTr.up hb) hjf (by omega) (by omega)
          rw [← hjs] at hAp
          clear hy hz hjs hjf hKr hTr hjl hys
          go_wp2_with fail
          refine hLf.mono ?_
          rintro e w3 ⟨rfl, hb3⟩
          clear hLf hcv
          have h1 := hAp.out w3 hb3
          unfold PtrS at h1
          clear hAp hb3 hS
          go_wp2_with fail
          refine h1.mono ?_
          rintro e w4 ⟨rfl, hS4⟩
          replace hS4 := Box.mk hS4
          clear h1
          go_wp2_with fail
          exact ⟨⟨j + 1, by omega, by go_num, hS4⟩, by simp [intOf]; omega⟩
        · obtain rfl : j = M := by omega
          have hnl : ¬ (j : Int) < (j : Int) := by omega
          have hIf : Fit I := by rw [← hI.out]; exact lvD_fit i
          have hPr := prove_any g j v (pkL (lvD j)) i I a c wr hS.out.s (hS.out.a.pa hil.out) hKr hIf
          have hcl := conL64 (l := I) (j : Int) (by rw [hil.out]; omega)
          have hcf := fit_con' hIf (j : Int)
          have hRs := Box.mk fun w' (hb : Below wr.heap.size wr w') => sat_root (hS.out.here hb).s (hKr.up hb) hjf (by omega)
          have hSz := Box.mk fun w' (hb : Below wr.heap.size wr w') => size_any g j v (pkL (lvD j)) w' (hS.out.here hb).s
          have hDC := Box.mk fun w' (hb : Below wr.heap.size wr w') => rconsistency_any i I (j : Int) a c w' ((hS.out.here hb).a.pa hil.out) hIf
          have hDR := Box.mk fun w' (hb : Below wr.heap.size wr w') => rroot_any i I a c w' ((hS.out.here hb).a.pa hil.out) hIf
          have hbw := Box.mk hS.out.bel
          have hos := root_size _ hjf
          unfold RowsE at hPr hDC
          unfold PtrS at hPr hRs hSz
          by_cases hji : j ≤ i
          · obtain ⟨o1, o2, _, _⟩ := con_own I j i hil.out hji
            have htk : I.take j = lvD j := by rw [← hI.out]; exact lvD_take j i hji
            rw [htk] at o2
            obtain ⟨C, hC⟩ : ∃ C, conL I (j : Int) = C := ⟨_, rfl⟩
            obtain ⟨O, hO⟩ : ∃ O, rootL (lvD j) = O := ⟨_, rfl⟩
            obtain ⟨R, hR⟩ : ∃ R, rootL I = R := ⟨_, rfl⟩
            rw [hC, o1] at hPr hDC
            rw [hC] at o2 hcl hcf
            rw [hO] at hRs o2 hos
            rw [hR] at hDR o2
            have hjii : ¬ (j : Int) > (i : Int) := by omega
            clear hS hjl hjs hjf hKr hTr hIf o1 htk hC hO hR hlt hj
            go_wp2_with fail
            refine hPr.mono ?_
            clear hPr
            rintro e w3 ⟨v3, rfl, hT3, hb3⟩
            obtain ⟨a3, c3, rfl⟩ := hT3.shape
            obtain ⟨p, hp⟩ : ∃ p, C.length = p := ⟨_, rfl⟩
            rw [hp] at hT3 hcl ⊢
            replace hT3 := Box.mk hT3
            replace hb3 := Box.mk hb3
            replace hp := Box.mk hp
            have h1 := hSz.out w3 hb3.out
            go_wp2_with fail
            refine h1.mono ?_
            clear h1
            rintro e w4 ⟨rfl, rfl⟩
            have h1 := hSz.out w3 hb3.out
            go_wp2_with fail
            refine h1.mono ?_
            clear h1
            rintro e w4 ⟨rfl, rfl⟩
            have h1 := hDC.out w3 hb3.out
            go_wp2_with fail
            refine h1.mono ?_
            clear h1 hDC
            rintro e w4 ⟨v4, rfl, hT4, hb4⟩
            replace hT3 := Box.mk (hT3.out.here hb4)
            replace hb3 := Box.mk (mono_bel hb3.out hb4 (Nat.le_refl _))
            have h1 := same_any _ _ C C w4 hT3.out.parts hT4.parts (by rw [hp.out]; unfold maxLen; omega)
            rw [texB_same] at h1
            clear hT4 hb4
            go_wp2_with fail
            refine h1.mono ?_
            clear h1
            rintro e w5 ⟨rfl, hb5⟩
            replace hT3 := Box.mk (hT3.out.here hb5)
            replace hb3 := Box.mk (mono_bel hb3.out hb5 (Nat.le_refl _))
            clear hb5
            have h1 := hSz.out w5 hb3.out
            go_wp2_with fail
            refine h1.mono ?_
            clear h1 hSz
            rintro e w6 ⟨rfl, rfl⟩
            have h1 := hRs.out w5 hb3.out
            go_wp2_with fail
            refine h1.mono ?_
            clear h1 hRs
            rintro e w6 ⟨rfl, hb5⟩
            replace hT3 := Box.mk (hT3.out.here hb5)
            replace hb3 := Box.mk (mono_bel hb3.out hb5 (Nat.le_refl _))
            clear hb5
            have h1 := hDR.out w6 hb3.out
            go_wp2_with fail
            refine h1.mono ?_
            clear h1 hDR
            rintro e w7 ⟨rfl, hb5⟩
            replace hT3 := Box.mk (hT3.out.here hb5)
            replace hb3 := Box.mk (mono_bel hb3.out hb5 (Nat.le_refl _))
            clear hb5
            have h1 := rconsistent_any j i O R C p a3 c3 w7 (hT3.out.pa hp.out) hcf hos (by omega)
            rw [o2] at h1
            clear o2 hcf hT3
            go_wp2_with fail
            refine h1.mono ?_
            clear h1
            rintro e w8 ⟨rfl, hb5⟩
            have hfin := Box.mk (mono_bel hbw.out (mono_bel hb3.out hb5 (Nat.le_refl _)) (Nat.le_refl _))
            clear hb5 hb3 hbw
            go_wp2_with fail
            go_ret
            exact ⟨rfl, hfin.out⟩
          · have hcn : conL I (j : Int) = [] := by unfold conL; rw [if_neg (by rw [hil.out]; omega)]
            have hce : conE I (j : Int) = 1 := by unfold conE; rw [if_neg (by rw [hil.out]; omega)]
            rw [hcn, hce] at hPr
            have hjii : (j : Int) > (i : Int) := by omega
            clear hS hjl hjs hjf hKr hTr hIf hcn hce hlt hj hcl hcf hRs hDC hDR hos
            go_wp2_with fail
            refine hPr.mono ?_
            clear hPr
            rintro e w3 ⟨v3, rfl, hT3, hb3⟩
            obtain ⟨a3, c3, rfl⟩ := hT3.shape
            have h1 := hSz.out w3 hb3
            have hfin := Box.mk (mono_bel hbw.out hb3 (Nat.le_refl _))
            simp only [List.length_nil]
            clear hT3 hb3 hSz hbw
            go_wp2_with fail
            refine h1.mono ?_
            clear h1
            rintro e w4 ⟨rfl, rfl⟩
            go_wp2_with fail
            go_ret
            exact ⟨rfl, hfin.out⟩
end Go.Proofs.YtakmlbnjgkfaiaaDoor
