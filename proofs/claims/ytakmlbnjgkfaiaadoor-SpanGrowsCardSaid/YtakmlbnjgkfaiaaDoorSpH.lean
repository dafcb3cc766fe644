/- Walk of the law SpanGrows. -/
import Derived.Test.YtakmlbnjgkfaiaaDoorSpG
namespace Go.Proofs.YtakmlbnjgkfaiaaDoor
open Go Go.RowKit

/-- The hashes of the first so many leaves. -/
def lvH (ps : List ByteArray) (i : Nat) : List ByteArray := (ps.take i).map leafH
theorem lvH_zero (ps : List ByteArray) : lvH ps 0 = [] := rfl
theorem lvH_succ (ps : List ByteArray) (i : Nat) (hi : i < ps.length) : lvH ps (i + 1) = lvH ps i ++ [leafH (ps.getD i ByteArray.empty)] := by
  unfold lvH
  rw [List.take_succ_eq_append_getElem hi, List.map_append, List.getD_eq_getElem?_getD, List.getElem?_eq_getElem hi]
  rfl
theorem lvH_length (ps : List ByteArray) (i : Nat) (hi : i ≤ ps.length) : (lvH ps i).length = i := by
  unfold lvH
  rw [List.length_map, List.length_take]; omega
theorem lvH_32 (ps : List ByteArray) (i : Nat) : ∀ x ∈ lvH ps i, x.size = 32 := fun x hx => by
  obtain ⟨i, _, rfl⟩ := List.mem_map.1 hx
  exact leafH_size _
theorem lvH_fit (ps : List ByteArray) (i : Nat) : Fit (lvH ps i) := fun x hx => by rw [lvH_32 ps i x hx]; omega
theorem lvH_take (ps : List ByteArray) (i j : Nat) (h : i ≤ j) : (lvH ps j).take i = lvH ps i := by
  unfold lvH
  rw [← List.map_take, List.take_take, Nat.min_eq_left h]
theorem lvH_get (ps : List ByteArray) (i j : Nat) (h : i < j) (hj : j ≤ ps.length) : (lvH ps j).getD i ByteArray.empty = leafH (ps.getD i ByteArray.empty) := by
  unfold lvH
  simp only [List.getD_eq_getElem?_getD, List.getElem?_map, List.getElem?_take_of_lt h, List.getElem?_eq_getElem (show i < ps.length by omega)]
  rfl
theorem GE.cs {w0 w : World} {g n gc nc : Nat} {v u vc : Value} {P Pc U : List ByteArray} (h : GE w0 w g n v P u U (some (gc, nc, vc, Pc))) : SAt w tSp gc nc vc Pc := (h.c _ _ _ _ rfl).1
/-- What the law's c is: none as yet, or the span of the first K leaves. -/
def CPS (ps : List ByteArray) (i K : Nat) (cp : Option (Nat × Nat × Value × List ByteArray)) (v6 : Value) : Prop :=
  (i ≤ K ∧ cp = none ∧ v6 = .pointer none) ∨ (K < i ∧ ∃ gc vc, cp = some (gc, K, vc, pkL (lvH ps K)) ∧ v6 = PtrS gc)
theorem CPS.next {ps : List ByteArray} {i K : Nat} {cp : Option (Nat × Nat × Value × List ByteArray)} {v6 : Value} (h : CPS ps i K cp v6) (hk : i ≠ K) : CPS ps (i + 1) K cp v6 := by
  rcases h with ⟨h1, h2⟩ | ⟨h1, h2⟩
  · exact .inl ⟨by omega, h2⟩
  · exact .inr ⟨by omega, h2⟩
theorem CPS.at {ps : List ByteArray} {K : Nat} {cp : Option (Nat × Nat × Value × List ByteArray)} {v6 : Value} (h : CPS ps K K cp v6) : cp = none ∧ v6 = .pointer none := by
  rcases h with ⟨h1, h2⟩ | ⟨h1, h2⟩
  · exact h2
  · omega
structure GR (w0 w : World) (g i K : Nat) (v6 u : Value) (ps : List ByteArray) : Prop where
  out : ∃ v cp, GE w0 w g i v (pkL (lvH ps i)) u (lvH ps i) cp ∧ CPS ps i K cp v6
theorem GR.zero (w0 w : World) (hb : Below w0.heap.size w0 w) (K : Nat) (ps : List ByteArray) : GR w0 (w.alloc (.cells #[.int .i64 0, .slice none 0 0] tSp)) w.heap.size 0 K (.pointer none) (.slice none 0 0) ps :=
  ⟨_, none, GE.zero w0 w hb, .inl ⟨Nat.zero_le _, rfl, rfl⟩⟩
set_option maxHeartbeats 6400000 in
set_option maxRecDepth 100000 in
theorem law_grows (a : Option Addr) (n c : Nat) (ps : List ByteArray) (K : Nat) (w : World) (hP : PA w a n c ps) (hK : KIs w) (hT : TIs w) (hk : K ≤ 255) (hz : ∀ s ∈ ps, s.size ≤ 140737488351232) :
    Calls Tryd.prog 3 #[.slice a n c, .int .u8 (K : Int)] w fun e w' => e = .returned (.bool true) ∧ Below w.heap.size w w' := by
  have hG := grows_any w hK hT
  obtain ⟨N, hN⟩ : ∃ N, min n 100 = N := ⟨_, rfl⟩
  have hmin : min (n : Int) 100 = (N : Int) := by omega
  have hNn : N ≤ n := by omega
  have hN100 : N ≤ 100 := by omega
  have hlen := hP.len
  have hcap := hP.cap
  have htop := hP.top
  have hPN := Box.mk hP
  replace hz := Box.mk hz
  replace hlen := Box.mk hlen
  replace hK := Box.mk hK
  replace hT := Box.mk hT
  clear hN hP
  go_enter Tryd.func3, Tryd.ntmps3
  go_wp2_with fail
  refine hG.mono ?_
  rintro e w1 ⟨rfl, hb1⟩
  clear hG
  have hS0 := Box.mk (GR.zero w w1 hb1 K ps)
  obtain ⟨w2, hw2⟩ : ∃ W, w1.alloc (.cells #[.int .i64 0, .slice none 0 0] 25) = W := ⟨_, rfl⟩
  rw [hw2] at hS0
  obtain ⟨g, hg⟩ : ∃ g, w1.heap.size = g := ⟨_, rfl⟩
  rw [hg] at hS0
  go_wp2_with fail
  clear hb1 hw2 hg
  go_loopw [6, 7, 23] (fun v6 v7 v23 wr => ∃ i : Nat, i ≤ N ∧ v23 = .int .i64 (i : Int) ∧ Box (GR w wr g i K v6 v7 ps)) (fun _ _ v23 _ => N - (intOf v23).toNat)
  case atStart => exact ⟨0, by omega, rfl, hS0⟩
  case round =>
    clear hS0
    obtain ⟨i, hi, rfl, hS⟩ := hrel
    obtain ⟨v, cp, hE, hc⟩ := hS.out.out
    clear hS
    obtain ⟨a7, c7, rfl⟩ := hE.a.shape
    have hil := lvH_length ps i (by rw [hlen.out]; omega)
    rw [hil] at hE ⊢
    have hS := Box.mk hE
    clear hE
    replace hc := Box.mk hc
    by_cases hlt : i < N
    · have hii : (i : Int) < (N : Int) := by omega
      obtain ⟨blk, off, rfl, hblk, hcell⟩ := hPN.out.at_ (by omega)
      have hIs := lvH_succ ps i (by rw [hlen.out]; omega)
      have hfJ := lvH_fit ps (i + 1)
      have hlJ := lvH_length ps (i + 1) (by rw [hlen.out]; omega)
      obtain ⟨t, ht⟩ : ∃ t, ps.getD i ByteArray.empty = t := ⟨_, rfl⟩
      have hts : t.size ≤ 140737488351232 := by
        rw [← ht, List.getD_eq_getElem?_getD, List.getElem?_eq_getElem (show i < ps.length by rw [hlen.out]; omega)]
        exact hz.out _ (List.getElem_mem _)
      have hcl : wr.cell? ⟨blk, off + i, none⟩ = some (.string t) := by rw [hS.out.bel.cell (p := ⟨blk, off + i, none⟩) hblk, hcell i (by omega), ht]
      rw [ht] at hIs
      have hLf := Box.mk fun w' => rleaf_any t w' (by omega)
      have hys := leafH_size t
      obtain ⟨y, hy⟩ : ∃ y, leafH t = y := ⟨_, rfl⟩
      rw [hy] at hLf hys hIs
      have hfI := Box.mk (lvH_fit ps i)
      obtain ⟨I, hI⟩ : ∃ I, lvH ps i = I := ⟨_, rfl⟩
      obtain ⟨J, hJ⟩ : ∃ J, lvH ps (i + 1) = J := ⟨_, rfl⟩
      rw [hI] at hS hil hIs hfI
      rw [hJ] at hIs hfJ hlJ
      replace hIs := Box.mk hIs
      replace hfJ := Box.mk hfJ
      replace hlJ := Box.mk hlJ
      replace hil := Box.mk hil
      replace hI := Box.mk hI
      replace hJ := Box.mk hJ
      clear hcell hblk ht hy hmin
      by_cases hik : i = K
      · subst hik
        obtain ⟨rfl, rfl⟩ := hc.out.at
        have h1 := ge_copy hS.out (by omega)
        unfold PtrS at h1
        clear hS
        go_wp2_with fail
        refine h1.mono ?_
        clear h1
        rintro e w3 ⟨gc, vc, rfl, hS3⟩
        replace hS3 := Box.mk hS3
        replace hc : Box (CPS ps (i + 1) i (some (gc, i, vc, pkL I)) (PtrS gc)) := ⟨.inr ⟨by omega, gc, vc, by rw [hI.out], rfl⟩⟩
        unfold PtrS at hc
        go_wp2_with fail
        refine (hLf.out w3).mono ?_
        rintro e w4 ⟨rfl, hb4⟩
        have hS4 := Box.mk (hS3.out.here hb4)
        have hpn := Box.mk (parts_new w4 [y] 9)
        clear hS3 hb4 hLf
        go_wp2_with (at_builtin; refine wpList_pushT rfl (.tmp 35) (.tmp 37) rfl w.heap.size _ I [y] rfl (hS4.out.a.here (bel_alloc _ _)) (by have := hS4.out.bel.size; simp; omega) (some ⟨w4.heap.size, 0, none⟩) 1 1 rfl rfl hpn.out (by rw [hil.out]; omega) ?_)
        rintro v5 w5 hp
        have hS5 := (hS4.out.here (bel_alloc _ _)).push hp
        rw [← hIs.out] at hS5
        obtain ⟨a5, c5, rfl⟩ := hS5.a.shape
        rw [hlJ.out] at hS5 ⊢
        have h1 := ge_append hS5 hil.out y (hK.out.below hS5.bel hK.out.lt) (hT.out.below hS5.bel hT.out.lt) hfI.out (by omega) (by omega)
        rw [← hIs.out] at h1
        unfold PtrS at h1
        clear hp hS4 hpn hS5
        go_wp2_with fail
        refine h1.mono ?_
        rintro e w6 ⟨rfl, v6', hS6⟩
        have hT6 := (hK.out.below hS6.bel hK.out.lt)
        have hPJ := hS6.a.pa hlJ.out
        have hSz := size_any g (i + 1) _ _ w6 hS6.s
        have hRt := sat_root hS6.s hT6 hfJ.out (by omega)
        have hDR := fun w' hb => rroot_any (i + 1) J a5 c5 w' (hPJ.here hb) hfJ.out
        have hPk := fun w' hb => peaks_any g (i + 1) _ _ w' (hS6.here hb).s (hS6.small (by omega))
        have hDP := fun w' hb => rpeaks_any a5 (i + 1) c5 J w' (hPJ.here hb) hfJ.out (by omega)
        unfold PtrS at hSz hRt hPk
        unfold RowIs at hPk hDP
        have hsm := hS6.small (by omega)
        obtain ⟨R, hR⟩ : ∃ R, rootL J = R := ⟨_, rfl⟩
        rw [hR] at hRt hDR
        obtain ⟨Q, hQ⟩ : ∃ Q, pkL J = Q := ⟨_, rfl⟩
        rw [hQ] at hPk hDP hsm
        replace hS6 := Box.mk hS6
        replace hDR := Box.mk hDR
        replace hPk := Box.mk hPk
        replace hDP := Box.mk hDP
        replace hsm := Box.mk hsm
        replace hQ := Box.mk hQ
        clear h1 hT6 hPJ hR
        go_wp2_with fail
        refine hSz.mono ?_
        clear hSz
        rintro e w7 ⟨rfl, rfl⟩
        go_wp2_with fail
        refine hRt.mono ?_
        clear hRt
        rintro e w7 ⟨rfl, hb⟩
        have h1 := hDR.out w7 hb
        replace hb := Box.mk hb
        clear hDR
        go_wp2_with fail
        refine h1.mono ?_
        clear h1
        rintro e w8 ⟨rfl, hb2⟩
        replace hb := Box.mk (mono_bel hb.out hb2 (Nat.le_refl _))
        have h1 := hPk.out w8 hb.out
        clear hPk hb2
        go_wp2_with fail
        refine h1.mono ?_
        clear h1
        rintro e w9 ⟨v9, rfl, hT9, hb2⟩
        replace hb := Box.mk (mono_bel hb.out hb2 (Nat.le_refl _))
        have h1 := hDP.out w9 hb.out
        replace hT9 := Box.mk hT9
        clear hDP hb2
        go_wp2_with fail
        refine h1.mono ?_
        clear h1
        rintro e w10 ⟨v10, rfl, hT10, hb2⟩
        have h1 := same_any _ _ Q Q w10 (hT9.out.here hb2).parts hT10.parts (by have := hsm.out; unfold maxLen; omega)
        rw [texB_same] at h1
        replace hb := Box.mk (mono_bel hb.out hb2 (Nat.le_refl _))
        clear hT9 hT10 hb2
        go_wp2_with fail
        refine h1.mono ?_
        clear h1
        rintro e w11 ⟨rfl, hb2⟩
        have hS7 := Box.mk (hS6.out.here (mono_bel hb.out hb2 (Nat.le_refl _)))
        clear hb hb2 hS6
        go_wp2_with fail
        refine ⟨⟨i + 1, by omega, by go_num, ⟨⟨v6', _, ?_, hc.out⟩⟩⟩, by simp [intOf]; omega⟩
        rw [hJ.out]; exact hS7.out
      · have hik2 : ¬ (i : Int) = (K : Int) := by omega
        replace hc := Box.mk (hc.out.next hik)
        obtain ⟨w3, hw3⟩ : ∃ W, wr = W := ⟨_, rfl⟩
        rw [hw3] at hS hcl ⊢
        have hS3 := hS
        clear hS hw3
        go_wp2_with fail
        refine (hLf.out w3).mono ?_
        rintro e w4 ⟨rfl, hb4⟩
        have hS4 := Box.mk (hS3.out.here hb4)
        have hpn := Box.mk (parts_new w4 [y] 9)
        clear hS3 hb4 hLf
        go_wp2_with (at_builtin; refine wpList_pushT rfl (.tmp 35) (.tmp 37) rfl w.heap.size _ I [y] rfl (hS4.out.a.here (bel_alloc _ _)) (by have := hS4.out.bel.size; simp; omega) (some ⟨w4.heap.size, 0, none⟩) 1 1 rfl rfl hpn.out (by rw [hil.out]; omega) ?_)
        rintro v5 w5 hp
        have hS5 := (hS4.out.here (bel_alloc _ _)).push hp
        rw [← hIs.out] at hS5
        obtain ⟨a5, c5, rfl⟩ := hS5.a.shape
        rw [hlJ.out] at hS5 ⊢
        have h1 := ge_append hS5 hil.out y (hK.out.below hS5.bel hK.out.lt) (hT.out.below hS5.bel hT.out.lt) hfI.out (by omega) (by omega)
        rw [← hIs.out] at h1
        unfold PtrS at h1
        clear hp hS4 hpn hS5
        go_wp2_with fail
        refine h1.mono ?_
        rintro e w6 ⟨rfl, v6', hS6⟩
        have hT6 := (hK.out.below hS6.bel hK.out.lt)
        have hPJ := hS6.a.pa hlJ.out
        have hSz := size_any g (i + 1) _ _ w6 hS6.s
        have hRt := sat_root hS6.s hT6 hfJ.out (by omega)
        have hDR := fun w' hb => rroot_any (i + 1) J a5 c5 w' (hPJ.here hb) hfJ.out
        have hPk := fun w' hb => peaks_any g (i + 1) _ _ w' (hS6.here hb).s (hS6.small (by omega))
        have hDP := fun w' hb => rpeaks_any a5 (i + 1) c5 J w' (hPJ.here hb) hfJ.out (by omega)
        unfold PtrS at hSz hRt hPk
        unfold RowIs at hPk hDP
        have hsm := hS6.small (by omega)
        obtain ⟨R, hR⟩ : ∃ R, rootL J = R := ⟨_, rfl⟩
        rw [hR] at hRt hDR
        obtain ⟨Q, hQ⟩ : ∃ Q, pkL J = Q := ⟨_, rfl⟩
        rw [hQ] at hPk hDP hsm
        replace hS6 := Box.mk hS6
        replace hDR := Box.mk hDR
        replace hPk := Box.mk hPk
        replace hDP := Box.mk hDP
        replace hsm := Box.mk hsm
        replace hQ := Box.mk hQ
        clear h1 hT6 hPJ hR
        go_wp2_with fail
        refine hSz.mono ?_
        clear hSz
        rintro e w7 ⟨rfl, rfl⟩
        go_wp2_with fail
        refine hRt.mono ?_
        clear hRt
        rintro e w7 ⟨rfl, hb⟩
        have h1 := hDR.out w7 hb
        replace hb := Box.mk hb
        clear hDR
        go_wp2_with fail
        refine h1.mono ?_
        clear h1
        rintro e w8 ⟨rfl, hb2⟩
        replace hb := Box.mk (mono_bel hb.out hb2 (Nat.le_refl _))
        have h1 := hPk.out w8 hb.out
        clear hPk hb2
        go_wp2_with fail
        refine h1.mono ?_
        clear h1
        rintro e w9 ⟨v9, rfl, hT9, hb2⟩
        replace hb := Box.mk (mono_bel hb.out hb2 (Nat.le_refl _))
        have h1 := hDP.out w9 hb.out
        replace hT9 := Box.mk hT9
        clear hDP hb2
        go_wp2_with fail
        refine h1.mono ?_
        clear h1
        rintro e w10 ⟨v10, rfl, hT10, hb2⟩
        have h1 := same_any _ _ Q Q w10 (hT9.out.here hb2).parts hT10.parts (by have := hsm.out; unfold maxLen; omega)
        rw [texB_same] at h1
        replace hb := Box.mk (mono_bel hb.out hb2 (Nat.le_refl _))
        clear hT9 hT10 hb2
        go_wp2_with fail
        refine h1.mono ?_
        clear h1
        rintro e w11 ⟨rfl, hb2⟩
        have hS7 := Box.mk (hS6.out.here (mono_bel hb.out hb2 (Nat.le_refl _)))
        clear hb hb2 hS6
        go_wp2_with fail
        refine ⟨⟨i + 1, by omega, by go_num, ⟨⟨v6', _, ?_, hc.out⟩⟩⟩, by simp [intOf]; omega⟩
        rw [hJ.out]; exact hS7.out
    · obtain rfl : i = N := by omega
      have hnl : ¬ (i : Int) < (i : Int) := by omega
      rcases hc.out with ⟨hc1, rfl, rfl⟩ | ⟨hc1, gc, vc, rfl, rfl⟩
      · have hfin := Box.mk hS.out.bel
        clear hS hc
        go_wp2_with fail
        go_ret
        exact ⟨rfl, hfin.out⟩
      · have hKr := hK.out.below hS.out.bel hK.out.lt
        have hPA := hS.out.a.pa hil
        have htk := lvH_take ps K i (by omega)
        have hlK := lvH_length ps K (by rw [hlen.out]; omega)
        have hfK := lvH_fit ps K
        have hfi := lvH_fit ps i
        have hlt7 := hPA.cap
        have htp7 := hPA.top
        obtain ⟨bl7, of7, rfl, _, _⟩ := hPA.at_ (by omega)
        have hSz := fun w' hb => size_any gc K vc _ w' (hS.out.here hb).cs
        have hRt := fun w' (hb : Below wr.heap.size wr w') => sat_root (hS.out.here hb).cs (hKr.up hb) hfK (by omega)
        have hDR := fun w' (hb : Below wr.heap.size wr w') => rroot_any K (lvH ps K) (some ⟨bl7, of7, none⟩) c7 w' (by have := (hPA.here hb).take (k := K) (by omega); rwa [htk] at this) hfK
        obtain ⟨R, hR⟩ : ∃ R, rootL (lvH ps K) = R := ⟨_, rfl⟩
        rw [hR] at hRt hDR
        unfold PtrS at hSz hRt
        clear hc hPN hPA htk hfK hlK hR hKr hfi hmin
        unfold PtrS
        go_wp2_with fail
        refine region_quiet (fun w' => Below wr.heap.size wr w') (by kernel_rfl) (by kernel_rfl) (dB _) ?_
        repeat (go_big_quiet_step (first | exact fun _ => rfl | rfl))
        refine quiet_call rfl (.int .i64 (K : Int)) (fun w' hw' => (hSz w' hw').mono fun e w2 h => ⟨h.1, h.2 ▸ hw'⟩) (fun w' _ => by go_simp) ?_
        simp only [Act.put, List.setIfInBounds_toArray, List.set_cons_succ, List.set_cons_zero]
        repeat (go_big_quiet_step (first | exact fun _ => rfl | rfl))
        refine quiet_call rfl (.string R) (fun w' hw' => bel_call (hRt w' hw') hw') (fun w' _ => by go_simp) ?_
        simp only [Act.put, List.setIfInBounds_toArray, List.set_cons_succ, List.set_cons_zero]
        repeat (go_big_quiet_step (first | exact fun _ => rfl | rfl))
        refine quiet_call rfl (.string R) (fun w' hw' => bel_call (hDR w' hw') hw') (fun w' _ => by go_simp) ?_
        simp only [Act.put, List.setIfInBounds_toArray, List.set_cons_succ, List.set_cons_zero]
        repeat (go_big_quiet_step (first | exact fun _ => rfl | rfl))
        refine wpQuiet_nil ?_
        clear hSz hRt hDR
        intro w3 hw3
        obtain ⟨M, hM⟩ : ∃ M, i - K = M := ⟨_, rfl⟩
        have hKM : K + M = i := by omega
        have hc7 : c7 ≠ K := by omega
        have hS0 := Box.mk (hS.out.here hw3)
        clear hS hw3
        go_wp2_with fail
        have hJ0 : K = K + 0 := rfl
        replace hS0 : Box (∃ vc, GE w w3 g i v (pkL (lvH ps i)) (.slice (some ⟨bl7, of7, none⟩) i c7) (lvH ps i) (some (gc, K + 0, vc, pkL (lvH ps (K + 0))))) := ⟨⟨vc, hS0.out⟩⟩
        try rw [hM]
        clear hJ0 hc7 hM
        go_loopw [80] (fun v80 wr => ∃ j : Nat, j ≤ M ∧ v80 = .int .i64 (j : Int) ∧ Box (∃ vc, GE w wr g i v (pkL (lvH ps i)) (.slice (some ⟨bl7, of7, none⟩) i c7) (lvH ps i) (some (gc, K + j, vc, pkL (lvH ps (K + j)))))) (fun v80 _ => M - (intOf v80).toNat)
        case atStart => exact ⟨0, by omega, rfl, hS0⟩
        case round =>
          clear hS0
          obtain ⟨j, hj, rfl, hS⟩ := hrel
          obtain ⟨vd, hE⟩ := hS.out
          have hS := Box.mk hE
          clear hE
          by_cases hlt2 : j < M
          · have hjj : (j : Int) < (M : Int) := by omega
            have hcl : wr.cell? ⟨bl7, of7 + K + j, none⟩ = some (.string (leafH (ps.getD (K + j) ByteArray.empty))) := by
              obtain ⟨_, _, e, _, hcc⟩ := (hS.out.a.pa hil).at_ (by omega)
              cases e
              rw [Nat.add_assoc, hcc (K + j) (by omega), lvH_get ps (K + j) i (by omega) (by rw [hlen.out]; omega)]
            have hys := leafH_size (ps.getD (K + j) ByteArray.empty)
            have hIs := lvH_succ ps (K + j) (by rw [hlen.out]; omega)
            obtain ⟨y, hy⟩ : ∃ y, leafH (ps.getD (K + j) ByteArray.empty) = y := ⟨_, rfl⟩
            rw [hy] at hcl hys hIs
            have h1 := ge_cappend hS.out (lvH_length ps (K + j) (by rw [hlen.out]; omega)) y (hK.out.below hS.out.bel hK.out.lt) (hT.out.below hS.out.bel hT.out.lt) (lvH_fit ps (K + j)) (by omega) (by omega)
            rw [← hIs] at h1
            unfold PtrS at h1
            clear hy hIs hS
            go_wp2_with fail
            refine h1.mono ?_
            clear h1
            rintro e w4 ⟨rfl, hS⟩
            replace hS := Box.mk hS
            go_wp2_with fail
            exact ⟨⟨j + 1, by omega, by go_num, hS⟩, by simp [intOf]; omega⟩
          · obtain rfl : j = M := by omega
            have hnl2 : ¬ (j : Int) < (j : Int) := by omega
            rw [hKM] at hS
            have hKr := hK.out.below hS.out.bel hK.out.lt
            have hfi := lvH_fit ps i
            have hRc := fun w' (hb : Below wr.heap.size wr w') => sat_root (hS.out.here hb).cs (hKr.up hb) hfi (by omega)
            have hRs := fun w' (hb : Below wr.heap.size wr w') => sat_root (hS.out.here hb).s (hKr.up hb) hfi (by omega)
            have hSc := fun w' (hb : Below wr.heap.size wr w') => size_any gc i vd _ w' (hS.out.here hb).cs
            have hSs := fun w' (hb : Below wr.heap.size wr w') => size_any g i v _ w' (hS.out.here hb).s
            have hfin := Box.mk hS.out.bel
            obtain ⟨X, hX⟩ : ∃ X, rootL (lvH ps i) = X := ⟨_, rfl⟩
            rw [hX] at hRc hRs
            unfold PtrS at hRc hRs hSc hSs
            replace hRc := Box.mk hRc
            replace hRs := Box.mk hRs
            replace hSc := Box.mk hSc
            replace hSs := Box.mk hSs
            have h1 := hRc.out wr (Below.refl _ _)
            clear hX hfi hKr hS hKM
            go_wp2_with fail
            refine h1.mono ?_
            clear h1
            rintro e w4 ⟨rfl, hb⟩
            have h1 := hRs.out w4 hb
            replace hb := Box.mk hb
            go_wp2_with fail
            refine h1.mono ?_
            clear h1
            rintro e w5 ⟨rfl, hb2⟩
            replace hb := Box.mk (mono_bel hb.out hb2 (Nat.le_refl _))
            clear hb2
            have h1 := hSc.out w5 hb.out
            go_wp2_with fail
            refine h1.mono ?_
            clear h1
            rintro e w6 ⟨rfl, rfl⟩
            have h1 := hSs.out w5 hb.out
            go_wp2_with fail
            refine h1.mono ?_
            clear h1
            rintro e w6 ⟨rfl, rfl⟩
            replace hfin := Box.mk (mono_bel hfin.out hb.out (Nat.le_refl _))
            go_wp2_with fail
            go_ret
            exact ⟨rfl, hfin.out⟩
end Go.Proofs.YtakmlbnjgkfaiaaDoor
