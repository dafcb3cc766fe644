/- meta: Check of the document. -/
import Derived.Test.YtiblkfkeifnpaaaGreatDoorZmc
import Derived.Test.YtiblkfkeifnpaaaGreatDoorZmd
set_option linter.all false
namespace Go.Proofs.YtiblkfkeifnpaaaGreatDoor.Me
open Go Go.RowKit Go.Proofs.YtiblkfkeifnpaaaGreatDoor Go.Proofs.YtiblkfkeifnpaaaGreatDoor.Nt
theorem txtE_beq (c : Ck) : (txtE c == 0) = gC c := by unfold txtE; cases gC c <;> simp
theorem noPt_yes {f : Fl} (h : noPt f = true) : f.pt.o.toList = [] ∧ f.pt.n = 0 ∧ f.pt.r.toList = [] := by
  unfold noPt at h
  simp only [Bool.and_eq_true, decide_eq_true_iff] at h
  rw [h.1, h.2.2]
  exact ⟨by simp, h.2.1, by simp⟩
theorem noPt_not {f : Fl} (h : noPt f = false) : ¬ f.pt.o.toList = [] ∨ (f.pt.o.toList = [] ∧ ¬ f.pt.n = 0) ∨ (f.pt.o.toList = [] ∧ f.pt.n = 0 ∧ ¬ f.pt.r.toList = []) := by
  have k : ∀ s : ByteArray, s.toList = [] → s = ByteArray.empty := fun s e => (tl_iff _ _).mp (by rw [e]; simp)
  unfold noPt at h
  by_cases h1 : f.pt.o.toList = []
  · by_cases h2 : f.pt.n = 0
    · by_cases h3 : f.pt.r.toList = []
      · rw [k _ h1, h2, k _ h3] at h; simp at h
      · exact .inr (.inr ⟨h1, h2, h3⟩)
    · exact .inr (.inl ⟨h1, h2⟩)
  · exact .inl h1
set_option maxHeartbeats 6400000 in
set_option maxRecDepth 100000 in
theorem rcheck_1 (d : Dc) (z : Sl) (B : Nat) (w : World) (hL : NL B w) (hB : B ≤ w.heap.size) (hv : DcAt w z d) (ho : DcOk d) (hk : d.k = 1) :
    Calls Tryz.prog 11 #[docV d z] w fun e w' => e = .returned (.int .i64 (chkDE d)) ∧ Below w.heap.size w w' := by
  obtain ⟨k, v, x, f⟩ := d
  dsimp only at hk
  subst hk
  obtain ⟨W1, hW1, hB1, hS1⟩ := doc_new w ⟨1, v, x, f⟩ z 30
  replace hS1 := Box.mk hS1
  have q1 := fun w' (hb : Below w.heap.size w w') => rroot_good ⟨1, v, x, f⟩ z B w' (hL.here hB hb) (by have := hb.size; omega) (hv.here hb) ho
  obtain ⟨b1, hb1⟩ : ∃ b, ruB f = b := ⟨_, rfl⟩
  obtain ⟨b2, hb2⟩ : ∃ b, noLs f = b := ⟨_, rfl⟩
  obtain ⟨b3, hb3⟩ : ∃ b, noPt f = b := ⟨_, rfl⟩
  obtain ⟨b4, hb4⟩ : ∃ b, noLk f = b := ⟨_, rfl⟩
  have eF : fldB 1 f = (b1 && (b2 && (b3 && b4))) := by unfold fldB; rw [if_pos rfl, hb1, hb2, hb3, hb4]
  obtain ⟨H1, hH1⟩ : ∃ X, decide (1 ≤ v ∧ v ≤ 65535) = X := ⟨_, rfl⟩
  obtain ⟨H2, hH2⟩ : ∃ X, decide (0 ≤ x ∧ x ≤ 1099511627776) = X := ⟨_, rfl⟩
  have eR : chkDE ⟨1, v, x, f⟩ = if H1 && (H2 && (b1 && (b2 && (b3 && b4)))) then 0 else 1 := by unfold chkDE chkD; rw [hH1, hH2, eF]
  rw [eR]
  dsimp only at q1
  rw [hb1] at q1
  unfold noLs at hb2
  rw [len0] at hb2
  replace hb3 := Box.mk hb3
  unfold noLk at hb4
  replace hb4 := Box.mk hb4
  clear hb1 eF eR hL hB hv ho
  obtain ⟨s0, s1, s2, s3, s4, s5, s6, s7, s8, s9, s10, s11, s12, s13, s14, s15, s16, s17, s18, s19, s20⟩ := doc_cells hS1.out
  dsimp only at s0 s1 s2 s3 s4 s5 s6 s7 s8 s9 s10 s11 s12 s13 s14 s15 s16 s17 s18 s19 s20
  show Calls _ _ #[.agg (docL _ z).toArray] w _
  go_enter Tryz.func11, Tryz.ntmps11
  by_cases g1 : v < 1
  · obtain rfl : H1 = false := by rw [← hH1]; exact decide_eq_false (by omega)
    have g1d : decide (v ≥ 1) = false := decide_eq_false (by omega)
    clear hH1 g1
    go_wp2_with (refine wpList_loadG (by rfl) 30 (.tmp 1) rfl w.heap.size 0 rfl (docL ⟨1, v, x, f⟩ z) _ (blk_range hS1.out) Tryz.underlying30 rfl (doc_size _ _) ?_)
    go_ret
    exact ⟨by simp, hB1.out⟩
  have g1d : decide (v ≥ 1) = true := decide_eq_true (by omega)
  by_cases g2 : 65535 < v
  · obtain rfl : H1 = false := by rw [← hH1]; exact decide_eq_false (by omega)
    have g2d : decide (v ≤ 65535) = false := decide_eq_false (by omega)
    clear hH1 g1 g2
    go_wp2_with (refine wpList_loadG (by rfl) 30 (.tmp 1) rfl w.heap.size 0 rfl (docL ⟨1, v, x, f⟩ z) _ (blk_range hS1.out) Tryz.underlying30 rfl (doc_size _ _) ?_)
    go_ret
    exact ⟨by simp, hB1.out⟩
  have g2d : decide (v ≤ 65535) = true := decide_eq_true (by omega)
  obtain rfl : H1 = true := by rw [← hH1]; exact decide_eq_true (by omega)
  clear hH1
  by_cases g3 : x < 0
  · obtain rfl : H2 = false := by rw [← hH2]; exact decide_eq_false (by omega)
    have g3d : decide (x ≥ 0) = false := decide_eq_false (by omega)
    clear hH2 g1 g2 g3
    go_wp2_with (refine wpList_loadG (by rfl) 30 (.tmp 1) rfl w.heap.size 0 rfl (docL ⟨1, v, x, f⟩ z) _ (blk_range hS1.out) Tryz.underlying30 rfl (doc_size _ _) ?_)
    go_ret
    exact ⟨by simp, hB1.out⟩
  have g3d : decide (x ≥ 0) = true := decide_eq_true (by omega)
  by_cases g4 : 1099511627776 < x
  · obtain rfl : H2 = false := by rw [← hH2]; exact decide_eq_false (by omega)
    have g4d : decide (x ≤ 1099511627776) = false := decide_eq_false (by omega)
    clear hH2 g1 g2 g3 g4
    go_wp2_with (refine wpList_loadG (by rfl) 30 (.tmp 1) rfl w.heap.size 0 rfl (docL ⟨1, v, x, f⟩ z) _ (blk_range hS1.out) Tryz.underlying30 rfl (doc_size _ _) ?_)
    go_ret
    exact ⟨by simp, hB1.out⟩
  have g4d : decide (x ≤ 1099511627776) = true := decide_eq_true (by omega)
  obtain rfl : H2 = true := by rw [← hH2]; exact decide_eq_true (by omega)
  clear hH2 g1 g2 g3 g4
  go_wp2_with (refine wpList_loadG (by rfl) 30 (.tmp 1) rfl w.heap.size 0 rfl (docL ⟨1, v, x, f⟩ z) _ (blk_range hS1.out) Tryz.underlying30 rfl (doc_size _ _) ?_)
  refine (q1 _ hB1.out).mono ?_
  clear q1
  rintro e v2 ⟨rfl, hb⟩
  have hB2 := Box.mk (mono_bel hB1.out hb (Nat.le_refl _))
  have hS2 := doc_here hS1 hb
  clear hb hB1 hS1 s0 s1 s2 s3 s4 s5 s6 s7 s8 s9 s10 s11 s12 s13 s14 s15 s16 s17 s18 s19 s20
  obtain ⟨s0, s1, s2, s3, s4, s5, s6, s7, s8, s9, s10, s11, s12, s13, s14, s15, s16, s17, s18, s19, s20⟩ := doc_cells hS2.out
  cases b1 with
  | false =>
    go_wp2_with (refine wpList_loadG (by rfl) 30 (.tmp 1) rfl w.heap.size 0 rfl (docL ⟨1, v, x, f⟩ z) _ (blk_range hS2.out) Tryz.underlying30 rfl (doc_size _ _) ?_)
    go_ret
    exact ⟨by simp, hB2.out⟩
  | true =>
    cases b2 with
    | false =>
      go_wp2_with (refine wpList_loadG (by rfl) 30 (.tmp 1) rfl w.heap.size 0 rfl (docL ⟨1, v, x, f⟩ z) _ (blk_range hS2.out) Tryz.underlying30 rfl (doc_size _ _) ?_)
      go_ret
      exact ⟨by simp, hB2.out⟩
    | true =>
      cases b3 with
      | false =>
        rcases noPt_not hb3.out with g1 | ⟨g1, g2⟩ | ⟨g1, g2, g3⟩
        · clear hb3
          go_wp2_with (refine wpList_loadG (by rfl) 30 (.tmp 1) rfl w.heap.size 0 rfl (docL ⟨1, v, x, f⟩ z) _ (blk_range hS2.out) Tryz.underlying30 rfl (doc_size _ _) ?_)
          go_ret
          exact ⟨by simp, hB2.out⟩
        · clear hb3
          go_wp2_with (refine wpList_loadG (by rfl) 30 (.tmp 1) rfl w.heap.size 0 rfl (docL ⟨1, v, x, f⟩ z) _ (blk_range hS2.out) Tryz.underlying30 rfl (doc_size _ _) ?_)
          go_ret
          exact ⟨by simp, hB2.out⟩
        · clear hb3
          go_wp2_with (refine wpList_loadG (by rfl) 30 (.tmp 1) rfl w.heap.size 0 rfl (docL ⟨1, v, x, f⟩ z) _ (blk_range hS2.out) Tryz.underlying30 rfl (doc_size _ _) ?_)
          go_ret
          exact ⟨by simp, hB2.out⟩
      | true =>
        obtain ⟨g5, g6, g7⟩ := noPt_yes hb3.out
        clear hb3
        rcases Bool.eq_false_or_eq_true (f.oo == 0) with g1 | g1
        · have h4 : (f.hs.toList == []) = b4 := by rw [← hb4.out, show decide (f.oo = 0) = true from g1, beq_b] <;> rfl
          clear hb4
          cases b4 with
          | false =>
            go_wp2_with (refine wpList_loadG (by rfl) 30 (.tmp 1) rfl w.heap.size 0 rfl (docL ⟨1, v, x, f⟩ z) _ (blk_range hS2.out) Tryz.underlying30 rfl (doc_size _ _) ?_)
            go_ret
            exact ⟨by simp, hB2.out⟩
          | true =>
            go_wp2_with (refine wpList_loadG (by rfl) 30 (.tmp 1) rfl w.heap.size 0 rfl (docL ⟨1, v, x, f⟩ z) _ (blk_range hS2.out) Tryz.underlying30 rfl (doc_size _ _) ?_)
            go_ret
            exact ⟨by simp, hB2.out⟩
        · obtain rfl : b4 = false := by rw [← hb4.out, show decide (f.oo = 0) = false from g1] <;> rfl
          clear hb4
          go_wp2_with (refine wpList_loadG (by rfl) 30 (.tmp 1) rfl w.heap.size 0 rfl (docL ⟨1, v, x, f⟩ z) _ (blk_range hS2.out) Tryz.underlying30 rfl (doc_size _ _) ?_)
          go_ret
          exact ⟨by simp, hB2.out⟩
set_option maxHeartbeats 6400000 in
set_option maxRecDepth 100000 in
theorem rcheck_2 (d : Dc) (z : Sl) (B : Nat) (w : World) (hL : NL B w) (hB : B ≤ w.heap.size) (hv : DcAt w z d) (ho : DcOk d) (hk : d.k = 2) :
    Calls Tryz.prog 11 #[docV d z] w fun e w' => e = .returned (.int .i64 (chkDE d)) ∧ Below w.heap.size w w' := by
  obtain ⟨k, v, x, f⟩ := d
  dsimp only at hk
  subst hk
  obtain ⟨W1, hW1, hB1, hS1⟩ := doc_new w ⟨2, v, x, f⟩ z 30
  replace hS1 := Box.mk hS1
  have q1 := fun w' (hb : Below w.heap.size w w') => rroot_no ⟨2, v, x, f⟩ z w'
  have q2 := fun w' (hb : Below w.heap.size w w') => rlist_any z.al.1 z.al.2 f.ls w' (hv.here hb).pl ho.ll
  obtain ⟨b1, hb1⟩ : ∃ b, noRu f = b := ⟨_, rfl⟩
  obtain ⟨b2, hb2⟩ : ∃ b, listB f.ls = b := ⟨_, rfl⟩
  obtain ⟨b3, hb3⟩ : ∃ b, noPt f = b := ⟨_, rfl⟩
  obtain ⟨b4, hb4⟩ : ∃ b, noLk f = b := ⟨_, rfl⟩
  have eF : fldB 2 f = (b1 && (b2 && (b3 && b4))) := by unfold fldB; rw [if_neg (by decide), if_pos rfl, hb1, hb2, hb3, hb4]
  obtain ⟨H1, hH1⟩ : ∃ X, decide (1 ≤ v ∧ v ≤ 65535) = X := ⟨_, rfl⟩
  obtain ⟨H2, hH2⟩ : ∃ X, decide (0 ≤ x ∧ x ≤ 1099511627776) = X := ⟨_, rfl⟩
  have eR : chkDE ⟨2, v, x, f⟩ = if H1 && (H2 && (b1 && (b2 && (b3 && b4)))) then 0 else 1 := by unfold chkDE chkD; rw [hH1, hH2, eF]
  rw [eR]
  dsimp only at q1
  rw [hb1] at q1
  rw [hb2] at q2
  replace hb3 := Box.mk hb3
  unfold noLk at hb4
  replace hb4 := Box.mk hb4
  clear hb1 eF eR hL hB hv ho hb2
  obtain ⟨s0, s1, s2, s3, s4, s5, s6, s7, s8, s9, s10, s11, s12, s13, s14, s15, s16, s17, s18, s19, s20⟩ := doc_cells hS1.out
  dsimp only at s0 s1 s2 s3 s4 s5 s6 s7 s8 s9 s10 s11 s12 s13 s14 s15 s16 s17 s18 s19 s20
  show Calls _ _ #[.agg (docL _ z).toArray] w _
  go_enter Tryz.func11, Tryz.ntmps11
  by_cases g1 : v < 1
  · obtain rfl : H1 = false := by rw [← hH1]; exact decide_eq_false (by omega)
    have g1d : decide (v ≥ 1) = false := decide_eq_false (by omega)
    clear hH1 g1
    go_wp2_with (refine wpList_loadG (by rfl) 30 (.tmp 1) rfl w.heap.size 0 rfl (docL ⟨2, v, x, f⟩ z) _ (blk_range hS1.out) Tryz.underlying30 rfl (doc_size _ _) ?_)
    go_ret
    exact ⟨by simp, hB1.out⟩
  have g1d : decide (v ≥ 1) = true := decide_eq_true (by omega)
  by_cases g2 : 65535 < v
  · obtain rfl : H1 = false := by rw [← hH1]; exact decide_eq_false (by omega)
    have g2d : decide (v ≤ 65535) = false := decide_eq_false (by omega)
    clear hH1 g1 g2
    go_wp2_with (refine wpList_loadG (by rfl) 30 (.tmp 1) rfl w.heap.size 0 rfl (docL ⟨2, v, x, f⟩ z) _ (blk_range hS1.out) Tryz.underlying30 rfl (doc_size _ _) ?_)
    go_ret
    exact ⟨by simp, hB1.out⟩
  have g2d : decide (v ≤ 65535) = true := decide_eq_true (by omega)
  obtain rfl : H1 = true := by rw [← hH1]; exact decide_eq_true (by omega)
  clear hH1
  by_cases g3 : x < 0
  · obtain rfl : H2 = false := by rw [← hH2]; exact decide_eq_false (by omega)
    have g3d : decide (x ≥ 0) = false := decide_eq_false (by omega)
    clear hH2 g1 g2 g3
    go_wp2_with (refine wpList_loadG (by rfl) 30 (.tmp 1) rfl w.heap.size 0 rfl (docL ⟨2, v, x, f⟩ z) _ (blk_range hS1.out) Tryz.underlying30 rfl (doc_size _ _) ?_)
    go_ret
    exact ⟨by simp, hB1.out⟩
  have g3d : decide (x ≥ 0) = true := decide_eq_true (by omega)
  by_cases g4 : 1099511627776 < x
  · obtain rfl : H2 = false := by rw [← hH2]; exact decide_eq_false (by omega)
    have g4d : decide (x ≤ 1099511627776) = false := decide_eq_false (by omega)
    clear hH2 g1 g2 g3 g4
    go_wp2_with (refine wpList_loadG (by rfl) 30 (.tmp 1) rfl w.heap.size 0 rfl (docL ⟨2, v, x, f⟩ z) _ (blk_range hS1.out) Tryz.underlying30 rfl (doc_size _ _) ?_)
    go_ret
    exact ⟨by simp, hB1.out⟩
  have g4d : decide (x ≤ 1099511627776) = true := decide_eq_true (by omega)
  obtain rfl : H2 = true := by rw [← hH2]; exact decide_eq_true (by omega)
  clear hH2 g1 g2 g3 g4
  go_wp2_with (refine wpList_loadG (by rfl) 30 (.tmp 1) rfl w.heap.size 0 rfl (docL ⟨2, v, x, f⟩ z) _ (blk_range hS1.out) Tryz.underlying30 rfl (doc_size _ _) ?_)
  refine (q1 _ hB1.out).mono ?_
  clear q1
  rintro e v2 ⟨rfl, hb⟩
  have hB2 := Box.mk (mono_bel hB1.out hb (Nat.le_refl _))
  have hS2 := doc_here hS1 hb
  clear hb hB1 hS1 s0 s1 s2 s3 s4 s5 s6 s7 s8 s9 s10 s11 s12 s13 s14 s15 s16 s17 s18 s19 s20
  obtain ⟨s0, s1, s2, s3, s4, s5, s6, s7, s8, s9, s10, s11, s12, s13, s14, s15, s16, s17, s18, s19, s20⟩ := doc_cells hS2.out
  cases b1 with
  | false =>
    go_wp2_with (refine wpList_loadG (by rfl) 30 (.tmp 1) rfl w.heap.size 0 rfl (docL ⟨2, v, x, f⟩ z) _ (blk_range hS2.out) Tryz.underlying30 rfl (doc_size _ _) ?_)
    go_ret
    exact ⟨by simp, hB2.out⟩
  | true =>
    go_wp2_with (refine wpList_loadG (by rfl) 30 (.tmp 1) rfl w.heap.size 0 rfl (docL ⟨2, v, x, f⟩ z) _ (blk_range hS2.out) Tryz.underlying30 rfl (doc_size _ _) ?_)
    refine (q2 _ hB2.out).mono ?_
    clear q2
    rintro e v3 ⟨rfl, hb⟩
    have hB3 := Box.mk (mono_bel hB2.out hb (Nat.le_refl _))
    have hS3 := doc_here hS2 hb
    clear hb hB2 hS2 s0 s1 s2 s3 s4 s5 s6 s7 s8 s9 s10 s11 s12 s13 s14 s15 s16 s17 s18 s19 s20
    obtain ⟨s0, s1, s2, s3, s4, s5, s6, s7, s8, s9, s10, s11, s12, s13, s14, s15, s16, s17, s18, s19, s20⟩ := doc_cells hS3.out
    cases b2 with
    | false =>
      go_wp2_with (refine wpList_loadG (by rfl) 30 (.tmp 1) rfl w.heap.size 0 rfl (docL ⟨2, v, x, f⟩ z) _ (blk_range hS3.out) Tryz.underlying30 rfl (doc_size _ _) ?_)
      go_ret
      exact ⟨by simp, hB3.out⟩
    | true =>
      cases b3 with
      | false =>
        rcases noPt_not hb3.out with g1 | ⟨g1, g2⟩ | ⟨g1, g2, g3⟩
        · clear hb3
          go_wp2_with (refine wpList_loadG (by rfl) 30 (.tmp 1) rfl w.heap.size 0 rfl (docL ⟨2, v, x, f⟩ z) _ (blk_range hS3.out) Tryz.underlying30 rfl (doc_size _ _) ?_)
          go_ret
          exact ⟨by simp, hB3.out⟩
        · clear hb3
          go_wp2_with (refine wpList_loadG (by rfl) 30 (.tmp 1) rfl w.heap.size 0 rfl (docL ⟨2, v, x, f⟩ z) _ (blk_range hS3.out) Tryz.underlying30 rfl (doc_size _ _) ?_)
          go_ret
          exact ⟨by simp, hB3.out⟩
        · clear hb3
          go_wp2_with (refine wpList_loadG (by rfl) 30 (.tmp 1) rfl w.heap.size 0 rfl (docL ⟨2, v, x, f⟩ z) _ (blk_range hS3.out) Tryz.underlying30 rfl (doc_size _ _) ?_)
          go_ret
          exact ⟨by simp, hB3.out⟩
      | true =>
        obtain ⟨g5, g6, g7⟩ := noPt_yes hb3.out
        clear hb3
        rcases Bool.eq_false_or_eq_true (f.oo == 0) with g1 | g1
        · have h4 : (f.hs.toList == []) = b4 := by rw [← hb4.out, show decide (f.oo = 0) = true from g1, beq_b] <;> rfl
          clear hb4
          cases b4 with
          | false =>
            go_wp2_with (refine wpList_loadG (by rfl) 30 (.tmp 1) rfl w.heap.size 0 rfl (docL ⟨2, v, x, f⟩ z) _ (blk_range hS3.out) Tryz.underlying30 rfl (doc_size _ _) ?_)
            go_ret
            exact ⟨by simp, hB3.out⟩
          | true =>
            go_wp2_with (refine wpList_loadG (by rfl) 30 (.tmp 1) rfl w.heap.size 0 rfl (docL ⟨2, v, x, f⟩ z) _ (blk_range hS3.out) Tryz.underlying30 rfl (doc_size _ _) ?_)
            go_ret
            exact ⟨by simp, hB3.out⟩
        · obtain rfl : b4 = false := by rw [← hb4.out, show decide (f.oo = 0) = false from g1] <;> rfl
          clear hb4
          go_wp2_with (refine wpList_loadG (by rfl) 30 (.tmp 1) rfl w.heap.size 0 rfl (docL ⟨2, v, x, f⟩ z) _ (blk_range hS3.out) Tryz.underlying30 rfl (doc_size _ _) ?_)
          go_ret
          exact ⟨by simp, hB3.out⟩
end Go.Proofs.YtiblkfkeifnpaaaGreatDoor.Me
