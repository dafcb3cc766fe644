/- meta: Check of the document, of snapshots, timestamps, other kinds. -/
import Derived.Test.YtiblkfkeifnpaaaGreatDoorZme
set_option linter.all false
namespace Go.Proofs.YtiblkfkeifnpaaaGreatDoor.Me
open Go Go.RowKit Go.Proofs.YtiblkfkeifnpaaaGreatDoor Go.Proofs.YtiblkfkeifnpaaaGreatDoor.Nt
set_option maxHeartbeats 6400000 in
set_option maxRecDepth 100000 in
theorem rcheck_3 (d : Dc) (z : Sl) (B : Nat) (w : World) (hL : NL B w) (hB : B ≤ w.heap.size) (hv : DcAt w z d) (ho : DcOk d) (hk : d.k = 3) :
    Calls Tryz.prog 11 #[docV d z] w fun e w' => e = .returned (.int .i64 (chkDE d)) ∧ Below w.heap.size w w' := by
  obtain ⟨k, v, x, f⟩ := d
  dsimp only at hk
  subst hk
  obtain ⟨W1, hW1, hB1, hS1⟩ := doc_new w ⟨3, v, x, f⟩ z 30
  replace hS1 := Box.mk hS1
  have q1 := fun w' (hb : Below w.heap.size w w') => rroot_no ⟨3, v, x, f⟩ z w'
  have q3 := fun w' (hb : Below w.heap.size w w') => dtext_any f.pt B w' (hL.here hB hb) (by have := hb.size; omega) ho.po ho.pr
  unfold txtV ckV at q3
  obtain ⟨b1, hb1⟩ : ∃ b, noRu f = b := ⟨_, rfl⟩
  obtain ⟨b2, hb2⟩ : ∃ b, noLs f = b := ⟨_, rfl⟩
  obtain ⟨b3, hb3⟩ : ∃ b, gC f.pt = b := ⟨_, rfl⟩
  obtain ⟨b4, hb4⟩ : ∃ b, lkB f = b := ⟨_, rfl⟩
  have eF : fldB 3 f = (b1 && (b2 && (b3 && b4))) := by unfold fldB; rw [if_neg (by decide), if_neg (by decide), if_pos rfl, hb1, hb2, hb3, hb4]
  obtain ⟨H1, hH1⟩ : ∃ X, decide (1 ≤ v ∧ v ≤ 65535) = X := ⟨_, rfl⟩
  obtain ⟨H2, hH2⟩ : ∃ X, decide (0 ≤ x ∧ x ≤ 1099511627776) = X := ⟨_, rfl⟩
  have eR : chkDE ⟨3, v, x, f⟩ = if H1 && (H2 && (b1 && (b2 && (b3 && b4)))) then 0 else 1 := by unfold chkDE chkD; rw [hH1, hH2, eF]
  rw [eR]
  dsimp only at q1
  rw [hb1] at q1
  unfold noLs at hb2
  rw [len0] at hb2
  rw [← txtE_beq] at hb3
  unfold lkB at hb4
  replace hb4 := Box.mk hb4
  clear hb1 eF eR hL hB hv ho
  obtain ⟨s0, s1, s2, s3, s4, s5, s6, s7, s8, s9, s10, s11, s12, s13, s14, s15, s16, s17, s18, s19, s20⟩ := doc_cells hS1.out
  dsimp only at s0 s1 s2 s3 s4 s5 s6 s7 s8 s9 s10 s11 s12 s13 s14 s15 s16 s17 s18 s19 s20
  show Calls _ _ #[.agg (docL _ z).toArray] w _
  go_enter Tryz.func11, Tryz.ntmps11
  by_cases g1 : v < 1
  · obtain rfl : H1 = false := by rw [← hH1]; exact decide_eq_false (by omega)
    have g1d : decide (v ≥ 1) = false := decide_eq_false (by omega)
    clear hH1 g1
    go_wp2_with (refine wpList_loadG (by rfl) 30 (.tmp 1) rfl w.heap.size 0 rfl (docL ⟨3, v, x, f⟩ z) _ (blk_range hS1.out) Tryz.underlying30 rfl (doc_size _ _) ?_)
    refine (q3 _ hB1.out).mono ?_
    clear q3
    rintro e v2 ⟨rfl, hb⟩
    have hB2 := Box.mk (mono_bel hB1.out hb (Nat.le_refl _))
    have hS2 := doc_here hS1 hb
    clear hb hB1 hS1 s0 s1 s2 s3 s4 s5 s6 s7 s8 s9 s10 s11 s12 s13 s14 s15 s16 s17 s18 s19 s20
    obtain ⟨s0, s1, s2, s3, s4, s5, s6, s7, s8, s9, s10, s11, s12, s13, s14, s15, s16, s17, s18, s19, s20⟩ := doc_cells hS2.out
    go_wp2_with (refine wpList_loadG (by rfl) 30 (.tmp 1) rfl w.heap.size 0 rfl (docL ⟨3, v, x, f⟩ z) _ (blk_range hS2.out) Tryz.underlying30 rfl (doc_size _ _) ?_)
    go_ret
    exact ⟨by simp, hB2.out⟩
  have g1d : decide (v ≥ 1) = true := decide_eq_true (by omega)
  by_cases g2 : 65535 < v
  · obtain rfl : H1 = false := by rw [← hH1]; exact decide_eq_false (by omega)
    have g2d : decide (v ≤ 65535) = false := decide_eq_false (by omega)
    clear hH1 g1 g2
    go_wp2_with (refine wpList_loadG (by rfl) 30 (.tmp 1) rfl w.heap.size 0 rfl (docL ⟨3, v, x, f⟩ z) _ (blk_range hS1.out) Tryz.underlying30 rfl (doc_size _ _) ?_)
    refine (q3 _ hB1.out).mono ?_
    clear q3
    rintro e v2 ⟨rfl, hb⟩
    have hB2 := Box.mk (mono_bel hB1.out hb (Nat.le_refl _))
    have hS2 := doc_here hS1 hb
    clear hb hB1 hS1 s0 s1 s2 s3 s4 s5 s6 s7 s8 s9 s10 s11 s12 s13 s14 s15 s16 s17 s18 s19 s20
    obtain ⟨s0, s1, s2, s3, s4, s5, s6, s7, s8, s9, s10, s11, s12, s13, s14, s15, s16, s17, s18, s19, s20⟩ := doc_cells hS2.out
    go_wp2_with (refine wpList_loadG (by rfl) 30 (.tmp 1) rfl w.heap.size 0 rfl (docL ⟨3, v, x, f⟩ z) _ (blk_range hS2.out) Tryz.underlying30 rfl (doc_size _ _) ?_)
    go_ret
    exact ⟨by simp, hB2.out⟩
  have g2d : decide (v ≤ 65535) = true := decide_eq_true (by omega)
  obtain rfl : H1 = true := by rw [← hH1]; exact decide_eq_true (by omega)
  clear hH1
  by_cases g3 : x < 0
  · obtain rfl : H2 = false := by rw [← hH2]; exact decide_eq_false (by omega)
    have g3d : decide (x ≥ 0) = false := decide_eq_false (by omega)
    clear hH2 g1 g2 g3
    go_wp2_with (refine wpList_loadG (by rfl) 30 (.tmp 1) rfl w.heap.size 0 rfl (docL ⟨3, v, x, f⟩ z) _ (blk_range hS1.out) Tryz.underlying30 rfl (doc_size _ _) ?_)
    refine (q3 _ hB1.out).mono ?_
    clear q3
    rintro e v2 ⟨rfl, hb⟩
    have hB2 := Box.mk (mono_bel hB1.out hb (Nat.le_refl _))
    have hS2 := doc_here hS1 hb
    clear hb hB1 hS1 s0 s1 s2 s3 s4 s5 s6 s7 s8 s9 s10 s11 s12 s13 s14 s15 s16 s17 s18 s19 s20
    obtain ⟨s0, s1, s2, s3, s4, s5, s6, s7, s8, s9, s10, s11, s12, s13, s14, s15, s16, s17, s18, s19, s20⟩ := doc_cells hS2.out
    go_wp2_with (refine wpList_loadG (by rfl) 30 (.tmp 1) rfl w.heap.size 0 rfl (docL ⟨3, v, x, f⟩ z) _ (blk_range hS2.out) Tryz.underlying30 rfl (doc_size _ _) ?_)
    go_ret
    exact ⟨by simp, hB2.out⟩
  have g3d : decide (x ≥ 0) = true := decide_eq_true (by omega)
  by_cases g4 : 1099511627776 < x
  · obtain rfl : H2 = false := by rw [← hH2]; exact decide_eq_false (by omega)
    have g4d : decide (x ≤ 1099511627776) = false := decide_eq_false (by omega)
    clear hH2 g1 g2 g3 g4
    go_wp2_with (refine wpList_loadG (by rfl) 30 (.tmp 1) rfl w.heap.size 0 rfl (docL ⟨3, v, x, f⟩ z) _ (blk_range hS1.out) Tryz.underlying30 rfl (doc_size _ _) ?_)
    refine (q3 _ hB1.out).mono ?_
    clear q3
    rintro e v2 ⟨rfl, hb⟩
    have hB2 := Box.mk (mono_bel hB1.out hb (Nat.le_refl _))
    have hS2 := doc_here hS1 hb
    clear hb hB1 hS1 s0 s1 s2 s3 s4 s5 s6 s7 s8 s9 s10 s11 s12 s13 s14 s15 s16 s17 s18 s19 s20
    obtain ⟨s0, s1, s2, s3, s4, s5, s6, s7, s8, s9, s10, s11, s12, s13, s14, s15, s16, s17, s18, s19, s20⟩ := doc_cells hS2.out
    go_wp2_with (refine wpList_loadG (by rfl) 30 (.tmp 1) rfl w.heap.size 0 rfl (docL ⟨3, v, x, f⟩ z) _ (blk_range hS2.out) Tryz.underlying30 rfl (doc_size _ _) ?_)
    go_ret
    exact ⟨by simp, hB2.out⟩
  have g4d : decide (x ≤ 1099511627776) = true := decide_eq_true (by omega)
  obtain rfl : H2 = true := by rw [← hH2]; exact decide_eq_true (by omega)
  clear hH2 g1 g2 g3 g4
  go_wp2_with (refine wpList_loadG (by rfl) 30 (.tmp 1) rfl w.heap.size 0 rfl (docL ⟨3, v, x, f⟩ z) _ (blk_range hS1.out) Tryz.underlying30 rfl (doc_size _ _) ?_)
  refine (q1 _ hB1.out).mono ?_
  clear q1
  rintro e v2 ⟨rfl, hb⟩
  have hB2 := Box.mk (mono_bel hB1.out hb (Nat.le_refl _))
  have hS2 := doc_here hS1 hb
  clear hb hB1 hS1 s0 s1 s2 s3 s4 s5 s6 s7 s8 s9 s10 s11 s12 s13 s14 s15 s16 s17 s18 s19 s20
  obtain ⟨s0, s1, s2, s3, s4, s5, s6, s7, s8, s9, s10, s11, s12, s13, s14, s15, s16, s17, s18, s19, s20⟩ := doc_cells hS2.out
  cases b1 with
  | false =>
    go_wp2_with (refine wpList_loadG (by rfl) 30 (.tmp 1) rfl w.heap.size 0 rfl (docL ⟨3, v, x, f⟩ z) _ (blk_range hS2.out) Tryz.underlying30 rfl (doc_size _ _) ?_)
    refine (q3 _ hB2.out).mono ?_
    clear q3
    rintro e v3 ⟨rfl, hb⟩
    have hB3 := Box.mk (mono_bel hB2.out hb (Nat.le_refl _))
    have hS3 := doc_here hS2 hb
    clear hb hB2 hS2 s0 s1 s2 s3 s4 s5 s6 s7 s8 s9 s10 s11 s12 s13 s14 s15 s16 s17 s18 s19 s20
    obtain ⟨s0, s1, s2, s3, s4, s5, s6, s7, s8, s9, s10, s11, s12, s13, s14, s15, s16, s17, s18, s19, s20⟩ := doc_cells hS3.out
    go_wp2_with (refine wpList_loadG (by rfl) 30 (.tmp 1) rfl w.heap.size 0 rfl (docL ⟨3, v, x, f⟩ z) _ (blk_range hS3.out) Tryz.underlying30 rfl (doc_size _ _) ?_)
    go_ret
    exact ⟨by simp, hB3.out⟩
  | true =>
    cases b2 with
    | false =>
      go_wp2_with (refine wpList_loadG (by rfl) 30 (.tmp 1) rfl w.heap.size 0 rfl (docL ⟨3, v, x, f⟩ z) _ (blk_range hS2.out) Tryz.underlying30 rfl (doc_size _ _) ?_)
      refine (q3 _ hB2.out).mono ?_
      clear q3
      rintro e v3 ⟨rfl, hb⟩
      have hB3 := Box.mk (mono_bel hB2.out hb (Nat.le_refl _))
      have hS3 := doc_here hS2 hb
      clear hb hB2 hS2 s0 s1 s2 s3 s4 s5 s6 s7 s8 s9 s10 s11 s12 s13 s14 s15 s16 s17 s18 s19 s20
      obtain ⟨s0, s1, s2, s3, s4, s5, s6, s7, s8, s9, s10, s11, s12, s13, s14, s15, s16, s17, s18, s19, s20⟩ := doc_cells hS3.out
      go_wp2_with (refine wpList_loadG (by rfl) 30 (.tmp 1) rfl w.heap.size 0 rfl (docL ⟨3, v, x, f⟩ z) _ (blk_range hS3.out) Tryz.underlying30 rfl (doc_size _ _) ?_)
      go_ret
      exact ⟨by simp, hB3.out⟩
    | true =>
      go_wp2_with (refine wpList_loadG (by rfl) 30 (.tmp 1) rfl w.heap.size 0 rfl (docL ⟨3, v, x, f⟩ z) _ (blk_range hS2.out) Tryz.underlying30 rfl (doc_size _ _) ?_)
      refine (q3 _ hB2.out).mono ?_
      clear q3
      rintro e v3 ⟨rfl, hb⟩
      have hB3 := Box.mk (mono_bel hB2.out hb (Nat.le_refl _))
      have hS3 := doc_here hS2 hb
      clear hb hB2 hS2 s0 s1 s2 s3 s4 s5 s6 s7 s8 s9 s10 s11 s12 s13 s14 s15 s16 s17 s18 s19 s20
      obtain ⟨s0, s1, s2, s3, s4, s5, s6, s7, s8, s9, s10, s11, s12, s13, s14, s15, s16, s17, s18, s19, s20⟩ := doc_cells hS3.out
      cases b3 with
      | false =>
        go_wp2_with (refine wpList_loadG (by rfl) 30 (.tmp 1) rfl w.heap.size 0 rfl (docL ⟨3, v, x, f⟩ z) _ (blk_range hS3.out) Tryz.underlying30 rfl (doc_size _ _) ?_)
        go_ret
        exact ⟨by simp, hB3.out⟩
      | true =>
        by_cases g1 : f.oo < 1
        · obtain rfl : b4 = false := by rw [← hb4.out, decide_eq_false (by omega)] <;> rfl
          have g1d : decide (f.oo ≥ 1) = false := decide_eq_false (by omega)
          clear hb4 g1
          go_wp2_with (refine wpList_loadG (by rfl) 30 (.tmp 1) rfl w.heap.size 0 rfl (docL ⟨3, v, x, f⟩ z) _ (blk_range hS3.out) Tryz.underlying30 rfl (doc_size _ _) ?_)
          go_ret
          exact ⟨by simp, hB3.out⟩
        have g1d : decide (f.oo ≥ 1) = true := decide_eq_true (by omega)
        by_cases g2 : 65535 < f.oo
        · obtain rfl : b4 = false := by rw [← hb4.out, decide_eq_false (by omega)] <;> rfl
          have g2d : decide (f.oo ≤ 65535) = false := decide_eq_false (by omega)
          clear hb4 g1 g2
          go_wp2_with (refine wpList_loadG (by rfl) 30 (.tmp 1) rfl w.heap.size 0 rfl (docL ⟨3, v, x, f⟩ z) _ (blk_range hS3.out) Tryz.underlying30 rfl (doc_size _ _) ?_)
          go_ret
          exact ⟨by simp, hB3.out⟩
        have g2d : decide (f.oo ≤ 65535) = true := decide_eq_true (by omega)
        have h4 : ((f.hs.size : Int) == 32) = b4 := by rw [← hb4.out, decide_eq_true (by omega), len32] <;> rfl
        clear hb4 g1 g2
        cases b4 with
        | false =>
          go_wp2_with (refine wpList_loadG (by rfl) 30 (.tmp 1) rfl w.heap.size 0 rfl (docL ⟨3, v, x, f⟩ z) _ (blk_range hS3.out) Tryz.underlying30 rfl (doc_size _ _) ?_)
          go_ret
          exact ⟨by simp, hB3.out⟩
        | true =>
          go_wp2_with (refine wpList_loadG (by rfl) 30 (.tmp 1) rfl w.heap.size 0 rfl (docL ⟨3, v, x, f⟩ z) _ (blk_range hS3.out) Tryz.underlying30 rfl (doc_size _ _) ?_)
          go_ret
          exact ⟨by simp, hB3.out⟩
set_option maxHeartbeats 6400000 in
set_option maxRecDepth 100000 in
theorem rcheck_4 (d : Dc) (z : Sl) (B : Nat) (w : World) (hL : NL B w) (hB : B ≤ w.heap.size) (hv : DcAt w z d) (ho : DcOk d) (hk : d.k = 4) :
    Calls Tryz.prog 11 #[docV d z] w fun e w' => e = .returned (.int .i64 (chkDE d)) ∧ Below w.heap.size w w' := by
  obtain ⟨k, v, x, f⟩ := d
  dsimp only at hk
  subst hk
  obtain ⟨W1, hW1, hB1, hS1⟩ := doc_new w ⟨4, v, x, f⟩ z 30
  replace hS1 := Box.mk hS1
  have q1 := fun w' (hb : Below w.heap.size w w') => rroot_no ⟨4, v, x, f⟩ z w'
  obtain ⟨b1, hb1⟩ : ∃ b, noRu f = b := ⟨_, rfl⟩
  obtain ⟨b2, hb2⟩ : ∃ b, noLs f = b := ⟨_, rfl⟩
  obtain ⟨b3, hb3⟩ : ∃ b, noPt f = b := ⟨_, rfl⟩
  obtain ⟨b4, hb4⟩ : ∃ b, lkB f = b := ⟨_, rfl⟩
  have eF : fldB 4 f = (b1 && (b2 && (b3 && b4))) := by unfold fldB; rw [if_neg (by decide), if_neg (by decide), if_neg (by decide), if_pos rfl, hb1, hb2, hb3, hb4]
  obtain ⟨H1, hH1⟩ : ∃ X, decide (1 ≤ v ∧ v ≤ 65535) = X := ⟨_, rfl⟩
  obtain ⟨H2, hH2⟩ : ∃ X, decide (0 ≤ x ∧ x ≤ 1099511627776) = X := ⟨_, rfl⟩
  have eR : chkDE ⟨4, v, x, f⟩ = if H1 && (H2 && (b1 && (b2 && (b3 && b4)))) then 0 else 1 := by unfold chkDE chkD; rw [hH1, hH2, eF]
  rw [eR]
  dsimp only at q1
  rw [hb1] at q1
  unfold noLs at hb2
  rw [len0] at hb2
  replace hb3 := Box.mk hb3
  unfold lkB at hb4
  replace hb4 := Box.mk hb4
  clear hb1 eF eR hL hB hv ho
  obtain ⟨s0, s1, s2, s3, s4, s5, s6, s7, s8, s9, s10, s11, s12, s13, s14, s15, s16, s17, s18, s19, s20⟩ := doc_cells hS1.out
  dsimp only at s0 s1 s2 s3 s4 s5 s6 s7 s8 s9 s10 s11 s12 s13 s14 s15 s16 s17 s18 s19 s20
  show Calls _ _ #[.agg (docL _ z).toArray] w _
  go_enter Tryz.func11, Tryz.ntmps11
  by_cases g1 : v < 1
  · obtain rfl : H1 = false := by rw [← hH1]; exact decide_eq_false (by omega)
    have g1d : decide (v ≥ 1) = false := decide_eq_false (by omega)
    clear hH1 g1
    go_wp2_with (refine wpList_loadG (by rfl) 30 (.tmp 1) rfl w.heap.size 0 rfl (docL ⟨4, v, x, f⟩ z) _ (blk_range hS1.out) Tryz.underlying30 rfl (doc_size _ _) ?_)
    go_ret
    exact ⟨by simp, hB1.out⟩
  have g1d : decide (v ≥ 1) = true := decide_eq_true (by omega)
  by_cases g2 : 65535 < v
  · obtain rfl : H1 = false := by rw [← hH1]; exact decide_eq_false (by omega)
    have g2d : decide (v ≤ 65535) = false := decide_eq_false (by omega)
    clear hH1 g1 g2
    go_wp2_with (refine wpList_loadG (by rfl) 30 (.tmp 1) rfl w.heap.size 0 rfl (docL ⟨4, v, x, f⟩ z) _ (blk_range hS1.out) Tryz.underlying30 rfl (doc_size _ _) ?_)
    go_ret
    exact ⟨by simp, hB1.out⟩
  have g2d : decide (v ≤ 65535) = true := decide_eq_true (by omega)
  obtain rfl : H1 = true := by rw [← hH1]; exact decide_eq_true (by omega)
  clear hH1
  by_cases g3 : x < 0
  · obtain rfl : H2 = false := by rw [← hH2]; exact decide_eq_false (by omega)
    have g3d : decide (x ≥ 0) = false := decide_eq_false (by omega)
    clear hH2 g1 g2 g3
    go_wp2_with (refine wpList_loadG (by rfl) 30 (.tmp 1) rfl w.heap.size 0 rfl (docL ⟨4, v, x, f⟩ z) _ (blk_range hS1.out) Tryz.underlying30 rfl (doc_size _ _) ?_)
    go_ret
    exact ⟨by simp, hB1.out⟩
  have g3d : decide (x ≥ 0) = true := decide_eq_true (by omega)
  by_cases g4 : 1099511627776 < x
  · obtain rfl : H2 = false := by rw [← hH2]; exact decide_eq_false (by omega)
    have g4d : decide (x ≤ 1099511627776) = false := decide_eq_false (by omega)
    clear hH2 g1 g2 g3 g4
    go_wp2_with (refine wpList_loadG (by rfl) 30 (.tmp 1) rfl w.heap.size 0 rfl (docL ⟨4, v, x, f⟩ z) _ (blk_range hS1.out) Tryz.underlying30 rfl (doc_size _ _) ?_)
    go_ret
    exact ⟨by simp, hB1.out⟩
  have g4d : decide (x ≤ 1099511627776) = true := decide_eq_true (by omega)
  obtain rfl : H2 = true := by rw [← hH2]; exact decide_eq_true (by omega)
  clear hH2 g1 g2 g3 g4
  go_wp2_with (refine wpList_loadG (by rfl) 30 (.tmp 1) rfl w.heap.size 0 rfl (docL ⟨4, v, x, f⟩ z) _ (blk_range hS1.out) Tryz.underlying30 rfl (doc_size _ _) ?_)
  refine (q1 _ hB1.out).mono ?_
  clear q1
  rintro e v2 ⟨rfl, hb⟩
  have hB2 := Box.mk (mono_bel hB1.out hb (Nat.le_refl _))
  have hS2 := doc_here hS1 hb
  clear hb hB1 hS1 s0 s1 s2 s3 s4 s5 s6 s7 s8 s9 s10 s11 s12 s13 s14 s15 s16 s17 s18 s19 s20
  obtain ⟨s0, s1, s2, s3, s4, s5, s6, s7, s8, s9, s10, s11, s12, s13, s14, s15, s16, s17, s18, s19, s20⟩ := doc_cells hS2.out
  cases b1 with
  | false =>
    go_wp2_with (refine wpList_loadG (by rfl) 30 (.tmp 1) rfl w.heap.size 0 rfl (docL ⟨4, v, x, f⟩ z) _ (blk_range hS2.out) Tryz.underlying30 rfl (doc_size _ _) ?_)
    go_ret
    exact ⟨by simp, hB2.out⟩
  | true =>
    cases b2 with
    | false =>
      go_wp2_with (refine wpList_loadG (by rfl) 30 (.tmp 1) rfl w.heap.size 0 rfl (docL ⟨4, v, x, f⟩ z) _ (blk_range hS2.out) Tryz.underlying30 rfl (doc_size _ _) ?_)
      go_ret
      exact ⟨by simp, hB2.out⟩
    | true =>
      cases b3 with
      | false =>
        rcases noPt_not hb3.out with g1 | ⟨g1, g2⟩ | ⟨g1, g2, g3⟩
        · clear hb3
          go_wp2_with (refine wpList_loadG (by rfl) 30 (.tmp 1) rfl w.heap.size 0 rfl (docL ⟨4, v, x, f⟩ z) _ (blk_range hS2.out) Tryz.underlying30 rfl (doc_size _ _) ?_)
          go_ret
          exact ⟨by simp, hB2.out⟩
        · clear hb3
          go_wp2_with (refine wpList_loadG (by rfl) 30 (.tmp 1) rfl w.heap.size 0 rfl (docL ⟨4, v, x, f⟩ z) _ (blk_range hS2.out) Tryz.underlying30 rfl (doc_size _ _) ?_)
          go_ret
          exact ⟨by simp, hB2.out⟩
        · clear hb3
          go_wp2_with (refine wpList_loadG (by rfl) 30 (.tmp 1) rfl w.heap.size 0 rfl (docL ⟨4, v, x, f⟩ z) _ (blk_range hS2.out) Tryz.underlying30 rfl (doc_size _ _) ?_)
          go_ret
          exact ⟨by simp, hB2.out⟩
      | true =>
        obtain ⟨g5, g6, g7⟩ := noPt_yes hb3.out
        clear hb3
        by_cases g1 : f.oo < 1
        · obtain rfl : b4 = false := by rw [← hb4.out, decide_eq_false (by omega)] <;> rfl
          have g1d : decide (f.oo ≥ 1) = false := decide_eq_false (by omega)
          clear hb4 g1
          go_wp2_with (refine wpList_loadG (by rfl) 30 (.tmp 1) rfl w.heap.size 0 rfl (docL ⟨4, v, x, f⟩ z) _ (blk_range hS2.out) Tryz.underlying30 rfl (doc_size _ _) ?_)
          go_ret
          exact ⟨by simp, hB2.out⟩
        have g1d : decide (f.oo ≥ 1) = true := decide_eq_true (by omega)
        by_cases g2 : 65535 < f.oo
        · obtain rfl : b4 = false := by rw [← hb4.out, decide_eq_false (by omega)] <;> rfl
          have g2d : decide (f.oo ≤ 65535) = false := decide_eq_false (by omega)
          clear hb4 g1 g2
          go_wp2_with (refine wpList_loadG (by rfl) 30 (.tmp 1) rfl w.heap.size 0 rfl (docL ⟨4, v, x, f⟩ z) _ (blk_range hS2.out) Tryz.underlying30 rfl (doc_size _ _) ?_)
          go_ret
          exact ⟨by simp, hB2.out⟩
        have g2d : decide (f.oo ≤ 65535) = true := decide_eq_true (by omega)
        have h4 : ((f.hs.size : Int) == 32) = b4 := by rw [← hb4.out, decide_eq_true (by omega), len32] <;> rfl
        clear hb4 g1 g2
        cases b4 with
        | false =>
          go_wp2_with (refine wpList_loadG (by rfl) 30 (.tmp 1) rfl w.heap.size 0 rfl (docL ⟨4, v, x, f⟩ z) _ (blk_range hS2.out) Tryz.underlying30 rfl (doc_size _ _) ?_)
          go_ret
          exact ⟨by simp, hB2.out⟩
        | true =>
          go_wp2_with (refine wpList_loadG (by rfl) 30 (.tmp 1) rfl w.heap.size 0 rfl (docL ⟨4, v, x, f⟩ z) _ (blk_range hS2.out) Tryz.underlying30 rfl (doc_size _ _) ?_)
          go_ret
          exact ⟨by simp, hB2.out⟩
set_option maxHeartbeats 6400000 in
set_option maxRecDepth 100000 in
theorem rcheck_0 (d : Dc) (z : Sl) (w : World) (hk : d.k < 1 ∨ 4 < d.k) :
    Calls Tryz.prog 11 #[docV d z] w fun e w' => e = .returned (.int .i64 (chkDE d)) ∧ Below w.heap.size w w' := by
  obtain ⟨k, v, x, f⟩ := d
  dsimp only at hk
  obtain ⟨W1, hW1, hB1, hS1⟩ := doc_new w ⟨k, v, x, f⟩ z 30
  replace hS1 := Box.mk hS1
  have eR : chkDE ⟨k, v, x, f⟩ = 1 := by
    have e : fldB k f = false := by unfold fldB; rw [if_neg (by omega), if_neg (by omega), if_neg (by omega), if_neg (by omega)]
    unfold chkDE chkD; rw [e]; simp
  rw [eR]
  have k2 : (k == 2) = false := by simp; omega
  have k3 : (k == 3) = false := by simp; omega
  have k4 : (k == 4) = false := by simp; omega
  clear eR
  have s0 := (doc_cells hS1.out).1
  dsimp only at s0
  show Calls _ _ #[.agg (docL _ z).toArray] w _
  by_cases g1 : k < 1
  · have g1d : decide (k ≥ 1) = false := decide_eq_false (by omega)
    clear hk g1
    go_enter Tryz.func11, Tryz.ntmps11
    go_wp2_with fail
    go_ret
    exact ⟨rfl, hB1.out⟩
  · have g1d : decide (k ≥ 1) = true := decide_eq_true (by omega)
    have g2d : decide (k ≤ 4) = false := decide_eq_false (by omega)
    clear hk g1
    go_enter Tryz.func11, Tryz.ntmps11
    go_wp2_with fail
    go_ret
    exact ⟨rfl, hB1.out⟩
theorem mrcheck_any (d : Dc) (z : Sl) (B : Nat) (w : World) (hL : NL B w) (hB : B ≤ w.heap.size) (hv : DcAt w z d) (ho : DcOk d) :
    Calls Tryz.prog 11 #[docV d z] w fun e w' => e = .returned (.int .i64 (chkDE d)) ∧ Below w.heap.size w w' := by
  by_cases h1 : d.k = 1
  · exact rcheck_1 d z B w hL hB hv ho h1
  by_cases h2 : d.k = 2
  · exact rcheck_2 d z B w hL hB hv ho h2
  by_cases h3 : d.k = 3
  · exact rcheck_3 d z B w hL hB hv ho h3
  by_cases h4 : d.k = 4
  · exact rcheck_4 d z B w hL hB hv ho h4
  exact rcheck_0 d z w (by omega)
end Go.Proofs.YtiblkfkeifnpaaaGreatDoor.Me
