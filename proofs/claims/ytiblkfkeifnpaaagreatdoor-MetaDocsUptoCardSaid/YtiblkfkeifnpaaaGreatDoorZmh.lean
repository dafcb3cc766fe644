/- meta: Encode of the document. -/
import Derived.Test.YtiblkfkeifnpaaaGreatDoorZmf
import Derived.Test.YtiblkfkeifnpaaaGreatDoorZmg
set_option linter.all false
namespace Go.Proofs.YtiblkfkeifnpaaaGreatDoor.Me
open Go Go.RowKit Go.Proofs.YtiblkfkeifnpaaaGreatDoor Go.Proofs.YtiblkfkeifnpaaaGreatDoor.Nt
theorem st_rng {s : SetM} (h : chkS s = true) : -9223372036854775808 ≤ s.2 ∧ s.2 ≤ 9223372036854775807 := by
  have := (chkB_iff s.1 s.2).1 h
  omega
theorem tgAt_rng {ts : List TgM} (h : listB ts = true) (i : Nat) (hi : i < ts.length) : (-9223372036854775808 ≤ (ts.getD i default).1 ∧ (ts.getD i default).1 ≤ 9223372036854775807) ∧ (-9223372036854775808 ≤ (ts.getD i default).2.1 ∧ (ts.getD i default).2.1 ≤ 9223372036854775807) := by
  simp only [listB, Bool.and_eq_true, decide_eq_true_iff] at h
  have h1 := List.all_eq_true.1 h.2 i (List.mem_range.2 hi)
  simp only [tgAt, Bool.and_eq_true, decide_eq_true_iff] at h1
  generalize ts.getD i default = t at *
  have := h1.1
  constructor <;> constructor <;> omega
theorem lk_rng {f : Fl} (h : lkB f = true) : -9223372036854775808 ≤ f.oo ∧ f.oo ≤ 9223372036854775807 := by
  simp only [lkB, Bool.and_eq_true, decide_eq_true_iff] at h
  omega
theorem gC_rng {c : Ck} (h : gC c = true) : -9223372036854775808 ≤ c.n ∧ c.n ≤ 9223372036854775807 := by
  simp only [gC, Bool.and_eq_true, decide_eq_true_iff] at h
  omega
set_option maxHeartbeats 3200000 in
set_option maxRecDepth 100000 in
theorem rencode_1 (d : Dc) (z : Sl) (B : Nat) (w : World) (hL : NL B w) (hB : B ≤ w.heap.size) (hv : DcAt w z d) (ho : DcOk d) (hc : chkD d = true) (hk : d.k = 1) :
    Calls Tryz.prog 9 #[docV d z] w fun e w' => e = .returned (.tuple #[.string (Pk.btx (layD d)), .int .i64 0]) ∧ Below w.heap.size w w' := by
  obtain ⟨k, v, x, f⟩ := d
  dsimp only at hk
  subst hk
  obtain ⟨W1, hW1, hB1, hS1⟩ := doc_new w ⟨1, v, x, f⟩ z 30
  replace hS1 := Box.mk hS1
  have hC := mrcheck_any ⟨1, v, x, f⟩ z B W1 (hL.here hB hB1.out) (by have := hB1.out.size; omega) (hv.here hB1.out) ho
  have eE : chkDE ⟨1, v, x, f⟩ = 0 := by unfold chkDE; rw [hc]; rfl
  rw [eE] at hC
  have hvB := Box.mk hv
  have hoB := Box.mk ho
  have hfit := Box.mk (fit_doc hc)
  have hc2 := hc
  simp only [chkD, Bool.and_eq_true, decide_eq_true_iff] at hc2
  obtain ⟨rv, rx, rf⟩ := hc2
  have hvr : -9223372036854775808 ≤ v ∧ v ≤ 9223372036854775807 := by omega
  have hxr : -9223372036854775808 ≤ x ∧ x ≤ 9223372036854775807 := by omega
  unfold fldB at rf
  rw [if_pos rfl] at rf
  simp only [ruB, Bool.and_eq_true] at rf
  obtain ⟨⟨c0, c1, c2, c3, c4, -⟩, -⟩ := rf
  have u0 := Box.mk (st_rng c0)
  have u1 := Box.mk (st_rng c1)
  have u2 := Box.mk (st_rng c2)
  have u3 := Box.mk (st_rng c3)
  have u4 := Box.mk (st_rng c4)
  clear c0 c1 c2 c3 c4
  clear hL hB hv ho eE rv rx hc
  replace hvr := Box.mk hvr
  replace hxr := Box.mk hxr
  show Calls _ _ #[.agg (docL _ z).toArray] w _
  go_enter Tryz.func9, Tryz.ntmps9
  go_wp2_with (refine wpList_loadG (by rfl) 30 (.tmp 1) rfl w.heap.size 0 rfl (docL ⟨1, v, x, f⟩ z) _ (blk_range hS1.out) Tryz.underlying30 rfl (doc_size _ _) ?_)
  refine hC.mono ?_
  clear hC
  rintro e w1 ⟨rfl, hb⟩
  have hB2 := Box.mk (mono_bel hB1.out hb (Nat.le_refl _))
  have hS2 := doc_here hS1 hb
  clear hb hS1 hB1
  have hlt := hS2.out.lt
  obtain ⟨W2, hW2⟩ : ∃ W2, w1.alloc (.cells #[.slice none 0 0, .bool false] 75) = W2 := ⟨_, rfl⟩
  have hW : Box (Wr w1 W2 w1.heap.size 75 []) := ⟨by rw [← hW2]; exact wr_new _ _⟩
  have hS3 : Box (Pk.Blk W2 w.heap.size (docL ⟨1, v, x, f⟩ z) 30) := ⟨by rw [← hW2]; exact blk_here hS2.out (bel_alloc _ _)⟩
  have hK : Box (Kp w1.heap.size w1 W2) := ⟨by rw [← hW2]; exact Kp.below (bel_alloc _ _)⟩
  have hne : Box (w.heap.size ≠ w1.heap.size) := ⟨by omega⟩
  have hv1 := Box.mk (hvB.out.here hB2.out)
  obtain ⟨bw, hbw⟩ : ∃ bw, w1.heap.size = bw := ⟨_, rfl⟩
  rw [hbw] at hW hK hne
  obtain ⟨s0, s1, s2, s3, s4, s5, s6, s7, s8, s9, s10, s11, s12, s13, s14, s15, s16, s17, s18, s19, s20⟩ := doc_cells hS3.out
  dsimp only at s0 s1 s2 s3 s4 s5 s6 s7 s8 s9 s10 s11 s12 s13 s14 s15 s16 s17 s18 s19 s20
  clear hS2 hlt hvB
  have hq := Box.mk (x_num hW.out (by simp) 1 1 (.inl rfl) (by decide))
  go_wp2_with fail
  refine hq.out.mono ?_
  clear hq
  rintro e v4 ⟨rfl, hw, hk⟩
  replace hW := Box.mk hw
  replace hK := Box.mk (hK.out.trans hk)
  have hS4 := Box.mk (hk _ _ _ (by decide) hne.out hS3.out)
  clear hw hk hS3 s0 s1 s2 s3 s4 s5 s6 s7 s8 s9 s10 s11 s12 s13 s14 s15 s16 s17 s18 s19 s20
  obtain ⟨s0, s1, s2, s3, s4, s5, s6, s7, s8, s9, s10, s11, s12, s13, s14, s15, s16, s17, s18, s19, s20⟩ := doc_cells hS4.out
  dsimp only at s0 s1 s2 s3 s4 s5 s6 s7 s8 s9 s10 s11 s12 s13 s14 s15 s16 s17 s18 s19 s20
  have hq := Box.mk (x_num hW.out (by simp) v 2 (.inr (.inl rfl)) hvr.out)
  go_wp2_with fail
  refine hq.out.mono ?_
  clear hq
  rintro e v5 ⟨rfl, hw, hk⟩
  replace hW := Box.mk hw
  replace hK := Box.mk (hK.out.trans hk)
  have hS5 := Box.mk (hk _ _ _ (by decide) hne.out hS4.out)
  clear hw hk hS4 s0 s1 s2 s3 s4 s5 s6 s7 s8 s9 s10 s11 s12 s13 s14 s15 s16 s17 s18 s19 s20
  obtain ⟨s0, s1, s2, s3, s4, s5, s6, s7, s8, s9, s10, s11, s12, s13, s14, s15, s16, s17, s18, s19, s20⟩ := doc_cells hS5.out
  dsimp only at s0 s1 s2 s3 s4 s5 s6 s7 s8 s9 s10 s11 s12 s13 s14 s15 s16 s17 s18 s19 s20
  have hq := Box.mk (x_num hW.out (by simp) x 8 (.inr (.inr (.inr rfl))) hxr.out)
  go_wp2_with fail
  refine hq.out.mono ?_
  clear hq
  rintro e v6 ⟨rfl, hw, hk⟩
  replace hW := Box.mk hw
  replace hK := Box.mk (hK.out.trans hk)
  have hS6 := Box.mk (hk _ _ _ (by decide) hne.out hS5.out)
  clear hw hk hS5 s0 s1 s2 s3 s4 s5 s6 s7 s8 s9 s10 s11 s12 s13 s14 s15 s16 s17 s18 s19 s20
  obtain ⟨s0, s1, s2, s3, s4, s5, s6, s7, s8, s9, s10, s11, s12, s13, s14, s15, s16, s17, s18, s19, s20⟩ := doc_cells hS6.out
  dsimp only at s0 s1 s2 s3 s4 s5 s6 s7 s8 s9 s10 s11 s12 s13 s14 s15 s16 s17 s18 s19 s20
  have hrl := rIt_len ⟨1, v, x, f⟩
  have hW0 : Box (Wr w1 v6 bw 75 ([nuI 1 1, nuI v 2, nuI x 8] ++ rIt ⟨1, v, x, f⟩ 0)) := ⟨hW.out.eq (by simp [rIt])⟩
  clear hW
  go_wp2_with fail
  clear s0 s1 s2 s3 s4 s5 s6 s7 s8 s9 s10 s11 s12 s13 s14 s15 s16 s17 s18 s19 s20
  go_loopw [5] (fun q wr => ∃ i : Nat, i ≤ 4 ∧ q = .int .i64 (i : Int) ∧ Box (Wr w1 wr bw 75 ([nuI 1 1, nuI v 2, nuI x 8] ++ rIt ⟨1, v, x, f⟩ i)) ∧ Box (Kp bw w1 wr) ∧ Box (Pk.Blk wr w.heap.size (docL ⟨1, v, x, f⟩ z) 30)) (fun q _ => 4 - (intOf q).toNat)
  case atStart => exact ⟨0, by omega, rfl, hW0, hK, hS6⟩
  case round =>
    clear hW0 hK hS6
    obtain ⟨i, hi, rfl, hW, hK, hS6⟩ := hrel
    obtain ⟨s0, s1, s2, s3, s4, s5, s6, s7, s8, s9, s10, s11, s12, s13, s14, s15, s16, s17, s18, s19, s20⟩ := doc_cells hS6.out
    dsimp only at s0 s1 s2 s3 s4 s5 s6 s7 s8 s9 s10 s11 s12 s13 s14 s15 s16 s17 s18 s19 s20
    rcases (show i = 0 ∨ i = 1 ∨ i = 2 ∨ i = 3 ∨ i = 4 by omega) with rfl | rfl | rfl | rfl | rfl
    · clear hi
      have hrli := hrl 0
      have hq := Box.mk (x_set hW.out (by simp only [List.length_append, List.length_cons, List.length_nil]; omega) f.r0 z.a0 hv1.out.p0 hoB.out.l0 u0.out)
      go_wp2_with fail
      refine hq.out.mono ?_
      clear hq
      rintro e v7 ⟨rfl, hw, hk⟩
      replace hW := Box.mk hw
      replace hK := Box.mk (hK.out.trans hk)
      have hS7 := Box.mk (hk _ _ _ (by decide) hne.out hS6.out)
      clear hw hk hS6 s0 s1 s2 s3 s4 s5 s6 s7 s8 s9 s10 s11 s12 s13 s14 s15 s16 s17 s18 s19 s20
      obtain ⟨s0, s1, s2, s3, s4, s5, s6, s7, s8, s9, s10, s11, s12, s13, s14, s15, s16, s17, s18, s19, s20⟩ := doc_cells hS7.out
      go_wp2_with fail
      exact ⟨⟨1, by omega, rfl, ⟨hW.out.eq (by simp [rIt])⟩, hK, hS7⟩, by simp [intOf]⟩
    · clear hi
      have hrli := hrl 1
      have hq := Box.mk (x_set hW.out (by simp only [List.length_append, List.length_cons, List.length_nil]; omega) f.r1 z.a1 hv1.out.p1 hoB.out.l1 u1.out)
      go_wp2_with fail
      refine hq.out.mono ?_
      clear hq
      rintro e v7 ⟨rfl, hw, hk⟩
      replace hW := Box.mk hw
      replace hK := Box.mk (hK.out.trans hk)
      have hS7 := Box.mk (hk _ _ _ (by decide) hne.out hS6.out)
      clear hw hk hS6 s0 s1 s2 s3 s4 s5 s6 s7 s8 s9 s10 s11 s12 s13 s14 s15 s16 s17 s18 s19 s20
      obtain ⟨s0, s1, s2, s3, s4, s5, s6, s7, s8, s9, s10, s11, s12, s13, s14, s15, s16, s17, s18, s19, s20⟩ := doc_cells hS7.out
      go_wp2_with fail
      exact ⟨⟨2, by omega, rfl, ⟨hW.out.eq (by simp [rIt])⟩, hK, hS7⟩, by simp [intOf]⟩
    · clear hi
      have hrli := hrl 2
      have hq := Box.mk (x_set hW.out (by simp only [List.length_append, List.length_cons, List.length_nil]; omega) f.r2 z.a2 hv1.out.p2 hoB.out.l2 u2.out)
      go_wp2_with fail
      refine hq.out.mono ?_
      clear hq
      rintro e v7 ⟨rfl, hw, hk⟩
      replace hW := Box.mk hw
      replace hK := Box.mk (hK.out.trans hk)
      have hS7 := Box.mk (hk _ _ _ (by decide) hne.out hS6.out)
      clear hw hk hS6 s0 s1 s2 s3 s4 s5 s6 s7 s8 s9 s10 s11 s12 s13 s14 s15 s16 s17 s18 s19 s20
      obtain ⟨s0, s1, s2, s3, s4, s5, s6, s7, s8, s9, s10, s11, s12, s13, s14, s15, s16, s17, s18, s19, s20⟩ := doc_cells hS7.out
      go_wp2_with fail
      exact ⟨⟨3, by omega, rfl, ⟨hW.out.eq (by simp [rIt])⟩, hK, hS7⟩, by simp [intOf]⟩
    · clear hi
      have hrli := hrl 3
      have hq := Box.mk (x_set hW.out (by simp only [List.length_append, List.length_cons, List.length_nil]; omega) f.r3 z.a3 hv1.out.p3 hoB.out.l3 u3.out)
      go_wp2_with fail
      refine hq.out.mono ?_
      clear hq
      rintro e v7 ⟨rfl, hw, hk⟩
      replace hW := Box.mk hw
      replace hK := Box.mk (hK.out.trans hk)
      have hS7 := Box.mk (hk _ _ _ (by decide) hne.out hS6.out)
      clear hw hk hS6 s0 s1 s2 s3 s4 s5 s6 s7 s8 s9 s10 s11 s12 s13 s14 s15 s16 s17 s18 s19 s20
      obtain ⟨s0, s1, s2, s3, s4, s5, s6, s7, s8, s9, s10, s11, s12, s13, s14, s15, s16, s17, s18, s19, s20⟩ := doc_cells hS7.out
      go_wp2_with fail
      exact ⟨⟨4, by omega, rfl, ⟨hW.out.eq (by simp [rIt])⟩, hK, hS7⟩, by simp [intOf]⟩
    · clear hi
      have hrli := hrl 4
      have hq := Box.mk (x_set hW.out (by simp only [List.length_append, List.length_cons, List.length_nil]; omega) f.wt z.aw hv1.out.pw hoB.out.lw u4.out)
      go_wp2_with fail
      refine hq.out.mono ?_
      clear hq
      rintro e v7 ⟨rfl, hw, hk⟩
      replace hW := Box.mk hw
      replace hK := Box.mk (hK.out.trans hk)
      have hS7 := Box.mk (hk _ _ _ (by decide) hne.out hS6.out)
      clear hw hk hS6 s0 s1 s2 s3 s4 s5 s6 s7 s8 s9 s10 s11 s12 s13 s14 s15 s16 s17 s18 s19 s20
      obtain ⟨s0, s1, s2, s3, s4, s5, s6, s7, s8, s9, s10, s11, s12, s13, s14, s15, s16, s17, s18, s19, s20⟩ := doc_cells hS7.out
      dsimp only at s0 s1 s2 s3 s4 s5 s6 s7 s8 s9 s10 s11 s12 s13 s14 s15 s16 s17 s18 s19 s20
      obtain ⟨pre, hpre⟩ : ∃ s, ([nuI 1 1, nuI v 2, nuI x 8] ++ rIt ⟨1, v, x, f⟩ 4) ++ setIs f.wt.1 f.wt.2 = s := ⟨_, rfl⟩
      have hpl : pre.length ≤ 9300 := by
        have := setIs_len f.wt.1 f.wt.2
        rw [← hpre, List.length_append, List.length_append]; simp only [List.length_cons, List.length_nil]; omega
      have hnx : Box (itsD ⟨1, v, x, f⟩ = (pre ++ [idI f.lg]) ++ [txI f.og]) := ⟨by rw [← hpre]; simp [itsD, itsF, rIt]⟩
      rw [hpre] at hW
      clear hpre
      have hq := Box.mk (x_hash hW.out (by first | omega | (simp only [List.length_append, List.length_cons, List.length_nil]; omega)) f.lg)
      go_wp2_with fail
      refine hq.out.mono ?_
      clear hq
      rintro e v8 ⟨rfl, hw, hk⟩
      replace hW := Box.mk hw
      replace hK := Box.mk (hK.out.trans hk)
      have hS8 := Box.mk (hk _ _ _ (by decide) hne.out hS7.out)
      clear hw hk hS7 s0 s1 s2 s3 s4 s5 s6 s7 s8 s9 s10 s11 s12 s13 s14 s15 s16 s17 s18 s19 s20
      obtain ⟨s0, s1, s2, s3, s4, s5, s6, s7, s8, s9, s10, s11, s12, s13, s14, s15, s16, s17, s18, s19, s20⟩ := doc_cells hS8.out
      dsimp only at s0 s1 s2 s3 s4 s5 s6 s7 s8 s9 s10 s11 s12 s13 s14 s15 s16 s17 s18 s19 s20
      have hq := Box.mk (x_text hW.out (by first | omega | (simp only [List.length_append, List.length_cons, List.length_nil]; omega)) f.og)
      go_wp2_with fail
      refine hq.out.mono ?_
      clear hq
      rintro e v9 ⟨rfl, hw, hk⟩
      replace hW := Box.mk hw
      replace hK := Box.mk (hK.out.trans hk)
      have hS9 := Box.mk (hk _ _ _ (by decide) hne.out hS8.out)
      clear hw hk hS8 s0 s1 s2 s3 s4 s5 s6 s7 s8 s9 s10 s11 s12 s13 s14 s15 s16 s17 s18 s19 s20
      obtain ⟨s0, s1, s2, s3, s4, s5, s6, s7, s8, s9, s10, s11, s12, s13, s14, s15, s16, s17, s18, s19, s20⟩ := doc_cells hS9.out
      dsimp only at s0 s1 s2 s3 s4 s5 s6 s7 s8 s9 s10 s11 s12 s13 s14 s15 s16 s17 s18 s19 s20
      have hW5 := hW.out.eq hnx.out.symm
      have hB5 := Box.mk (mono_bel hB2.out hW5.bel (Nat.le_refl _))
      have hq := x_bytes hW5 hfit.out
      clear hW hW5 s0 s1 s2 s3 s4 s5 s6 s7 s8 s9 s10 s11 s12 s13 s14 s15 s16 s17 s18 s19 s20
      go_wp2_with fail
      refine hq.mono ?_
      clear hq
      rintro e w5 ⟨rfl, rfl⟩
      go_wp2_with fail
      go_returns
      exact ⟨rfl, hB5.out⟩
set_option maxHeartbeats 3200000 in
set_option maxRecDepth 100000 in
theorem rencode_2 (d : Dc) (z : Sl) (B : Nat) (w : World) (hL : NL B w) (hB : B ≤ w.heap.size) (hv : DcAt w z d) (ho : DcOk d) (hc : chkD d = true) (hk : d.k = 2) :
    Calls Tryz.prog 9 #[docV d z] w fun e w' => e = .returned (.tuple #[.string (Pk.btx (layD d)), .int .i64 0]) ∧ Below w.heap.size w w' := by
  obtain ⟨k, v, x, f⟩ := d
  dsimp only at hk
  subst hk
  obtain ⟨W1, hW1, hB1, hS1⟩ := doc_new w ⟨2, v, x, f⟩ z 30
  replace hS1 := Box.mk hS1
  have hC := mrcheck_any ⟨2, v, x, f⟩ z B W1 (hL.here hB hB1.out) (by have := hB1.out.size; omega) (hv.here hB1.out) ho
  have eE : chkDE ⟨2, v, x, f⟩ = 0 := by unfold chkDE; rw [hc]; rfl
  rw [eE] at hC
  have hvB := Box.mk hv
  have hoB := Box.mk ho
  have hfit := Box.mk (fit_doc hc)
  have hc2 := hc
  simp only [chkD, Bool.and_eq_true, decide_eq_true_iff] at hc2
  obtain ⟨rv, rx, rf⟩ := hc2
  have hvr : -9223372036854775808 ≤ v ∧ v ≤ 9223372036854775807 := by omega
  have hxr : -9223372036854775808 ≤ x ∧ x ≤ 9223372036854775807 := by omega
  unfold fldB at rf
  rw [if_neg (by decide), if_pos rfl] at rf
  simp only [Bool.and_eq_true] at rf
  have u0 := Box.mk (tgAt_rng rf.2.1)
  have hl64 : f.ls.length ≤ 64 := (chk_len hc).1
  clear rf
  clear hL hB hv ho eE rv rx hc
  replace hvr := Box.mk hvr
  replace hxr := Box.mk hxr
  show Calls _ _ #[.agg (docL _ z).toArray] w _
  go_enter Tryz.func9, Tryz.ntmps9
  go_wp2_with (refine wpList_loadG (by rfl) 30 (.tmp 1) rfl w.heap.size 0 rfl (docL ⟨2, v, x, f⟩ z) _ (blk_range hS1.out) Tryz.underlying30 rfl (doc_size _ _) ?_)
  refine hC.mono ?_
  clear hC
  rintro e w1 ⟨rfl, hb⟩
  have hB2 := Box.mk (mono_bel hB1.out hb (Nat.le_refl _))
  have hS2 := doc_here hS1 hb
  clear hb hS1 hB1
  have hlt := hS2.out.lt
  obtain ⟨W2, hW2⟩ : ∃ W2, w1.alloc (.cells #[.slice none 0 0, .bool false] 75) = W2 := ⟨_, rfl⟩
  have hW : Box (Wr w1 W2 w1.heap.size 75 []) := ⟨by rw [← hW2]; exact wr_new _ _⟩
  have hS3 : Box (Pk.Blk W2 w.heap.size (docL ⟨2, v, x, f⟩ z) 30) := ⟨by rw [← hW2]; exact blk_here hS2.out (bel_alloc _ _)⟩
  have hK : Box (Kp w1.heap.size w1 W2) := ⟨by rw [← hW2]; exact Kp.below (bel_alloc _ _)⟩
  have hne : Box (w.heap.size ≠ w1.heap.size) := ⟨by omega⟩
  have hv1 := Box.mk (hvB.out.here hB2.out)
  obtain ⟨bw, hbw⟩ : ∃ bw, w1.heap.size = bw := ⟨_, rfl⟩
  rw [hbw] at hW hK hne
  obtain ⟨s0, s1, s2, s3, s4, s5, s6, s7, s8, s9, s10, s11, s12, s13, s14, s15, s16, s17, s18, s19, s20⟩ := doc_cells hS3.out
  dsimp only at s0 s1 s2 s3 s4 s5 s6 s7 s8 s9 s10 s11 s12 s13 s14 s15 s16 s17 s18 s19 s20
  clear hS2 hlt hvB
  have hq := Box.mk (x_num hW.out (by simp) 2 1 (.inl rfl) (by decide))
  go_wp2_with fail
  refine hq.out.mono ?_
  clear hq
  rintro e v4 ⟨rfl, hw, hk⟩
  replace hW := Box.mk hw
  replace hK := Box.mk (hK.out.trans hk)
  have hS4 := Box.mk (hk _ _ _ (by decide) hne.out hS3.out)
  clear hw hk hS3 s0 s1 s2 s3 s4 s5 s6 s7 s8 s9 s10 s11 s12 s13 s14 s15 s16 s17 s18 s19 s20
  obtain ⟨s0, s1, s2, s3, s4, s5, s6, s7, s8, s9, s10, s11, s12, s13, s14, s15, s16, s17, s18, s19, s20⟩ := doc_cells hS4.out
  dsimp only at s0 s1 s2 s3 s4 s5 s6 s7 s8 s9 s10 s11 s12 s13 s14 s15 s16 s17 s18 s19 s20
  have hq := Box.mk (x_num hW.out (by simp) v 2 (.inr (.inl rfl)) hvr.out)
  go_wp2_with fail
  refine hq.out.mono ?_
  clear hq
  rintro e v5 ⟨rfl, hw, hk⟩
  replace hW := Box.mk hw
  replace hK := Box.mk (hK.out.trans hk)
  have hS5 := Box.mk (hk _ _ _ (by decide) hne.out hS4.out)
  clear hw hk hS4 s0 s1 s2 s3 s4 s5 s6 s7 s8 s9 s10 s11 s12 s13 s14 s15 s16 s17 s18 s19 s20
  obtain ⟨s0, s1, s2, s3, s4, s5, s6, s7, s8, s9, s10, s11, s12, s13, s14, s15, s16, s17, s18, s19, s20⟩ := doc_cells hS5.out
  dsimp only at s0 s1 s2 s3 s4 s5 s6 s7 s8 s9 s10 s11 s12 s13 s14 s15 s16 s17 s18 s19 s20
  have hq := Box.mk (x_num hW.out (by simp) x 8 (.inr (.inr (.inr rfl))) hxr.out)
  go_wp2_with fail
  refine hq.out.mono ?_
  clear hq
  rintro e v6 ⟨rfl, hw, hk⟩
  replace hW := Box.mk hw
  replace hK := Box.mk (hK.out.trans hk)
  have hS6 := Box.mk (hk _ _ _ (by decide) hne.out hS5.out)
  clear hw hk hS5 s0 s1 s2 s3 s4 s5 s6 s7 s8 s9 s10 s11 s12 s13 s14 s15 s16 s17 s18 s19 s20
  obtain ⟨s0, s1, s2, s3, s4, s5, s6, s7, s8, s9, s10, s11, s12, s13, s14, s15, s16, s17, s18, s19, s20⟩ := doc_cells hS6.out
  dsimp only at s0 s1 s2 s3 s4 s5 s6 s7 s8 s9 s10 s11 s12 s13 s14 s15 s16 s17 s18 s19 s20
  obtain ⟨L, hL⟩ : ∃ L, f.ls.length = L := ⟨_, rfl⟩
  have hpl := hv1.out.pl
  dsimp only at hpl
  rw [hL] at s15 hl64 hpl
  have hpB := Box.mk hpl
  have hLB := Box.mk hL
  clear hL hpl
  have hq := Box.mk (x_num hW.out (by simp) (L : Int) 1 (.inl rfl) (by omega))
  go_wp2_with fail
  refine hq.out.mono ?_
  clear hq
  rintro e v7 ⟨rfl, hw, hk⟩
  replace hW := Box.mk hw
  replace hK := Box.mk (hK.out.trans hk)
  have hS7 := Box.mk (hk _ _ _ (by decide) hne.out hS6.out)
  clear hw hk hS6 s0 s1 s2 s3 s4 s5 s6 s7 s8 s9 s10 s11 s12 s13 s14 s15 s16 s17 s18 s19 s20
  obtain ⟨s0, s1, s2, s3, s4, s5, s6, s7, s8, s9, s10, s11, s12, s13, s14, s15, s16, s17, s18, s19, s20⟩ := doc_cells hS7.out
  dsimp only at s0 s1 s2 s3 s4 s5 s6 s7 s8 s9 s10 s11 s12 s13 s14 s15 s16 s17 s18 s19 s20
  have hW0 : Box (Wr w1 v7 bw 75 ([nuI 2 1, nuI v 2, nuI x 8, nuI L 1] ++ (f.ls.take 0).flatMap tgI)) := ⟨hW.out.eq (by simp)⟩
  clear hW
  go_wp2_with fail
  clear s0 s1 s2 s3 s4 s5 s6 s7 s8 s9 s10 s11 s12 s13 s14 s15 s16 s17 s18 s19 s20
  go_loopw [6] (fun q wr => ∃ i : Nat, i ≤ L ∧ q = .int .i64 (i : Int) ∧ Box (Wr w1 wr bw 75 ([nuI 2 1, nuI v 2, nuI x 8, nuI L 1] ++ (f.ls.take i).flatMap tgI)) ∧ Box (Kp bw w1 wr) ∧ Box (Pk.Blk wr w.heap.size (docL ⟨2, v, x, f⟩ z) 30)) (fun q _ => L - (intOf q).toNat)
  case atStart => exact ⟨0, by omega, rfl, hW0, hK, hS7⟩
  case round =>
    clear hW0 hK hS7
    obtain ⟨i, hi, rfl, hW, hK, hS7⟩ := hrel
    have s15 := (doc_cells hS7.out).2.2.2.2.2.2.2.2.2.2.2.2.2.2.2.1
    dsimp only at s15
    rw [hLB.out] at s15
    by_cases hlt : i < L
    · have hig : i < f.ls.length := by rw [hLB.out]; exact hlt
      obtain ⟨a', c', e1, e2⟩ := hpB.out.ex
      obtain ⟨blk, off, ha, hbl, hc⟩ := e2 (by omega)
      have haa : z.al.1 = some ⟨blk, off, none⟩ := by rw [← ha]; exact (Value.slice.inj e1).1
      obtain ⟨k1, k2, k3⟩ := hc i hig
      obtain ⟨r1, r2⟩ := u0.out i hig
      have htk := tgI_take f.ls i hig
      obtain ⟨t, hx⟩ : ∃ t, f.ls.getD i default = t := ⟨_, rfl⟩
      rw [hx] at k1 k2 k3 htk r1 r2
      obtain ⟨p, y, u⟩ := t
      dsimp only at k1 k2 k3 htk r1 r2
      have hcell := Box.mk fun (w' : World) (hb : Below w1.heap.size w1 w') => (⟨(hb.cell (p := ⟨blk, off + i * 3, none⟩) hbl).trans k1, (hb.cell (p := ⟨blk, off + i * 3 + 1, none⟩) hbl).trans k2, (hb.cell (p := ⟨blk, off + i * 3 + 2, none⟩) hbl).trans k3⟩ : w'.cell? ⟨blk, off + i * 3, none⟩ = some (.int .i64 p) ∧ w'.cell? ⟨blk, off + i * 3 + 1, none⟩ = some (.int .i64 y) ∧ w'.cell? ⟨blk, off + i * 3 + 2, none⟩ = some (.string u))
      rw [haa] at s15
      have hii : (i : Int) < (L : Int) := by omega
      obtain ⟨pre, hpre⟩ : ∃ s, [nuI 2 1, nuI v 2, nuI x 8, nuI (L : Int) 1] ++ (f.ls.take i).flatMap tgI = s := ⟨_, rfl⟩
      have hpl : pre.length ≤ 9300 := by
        rw [← hpre, List.length_append, tgI_len, List.length_take]; simp only [List.length_cons, List.length_nil]; omega
      have hnx : Box ([nuI 2 1, nuI v 2, nuI x 8, nuI (L : Int) 1] ++ (f.ls.take (i + 1)).flatMap tgI = ((pre ++ [nuI p 1]) ++ [nuI y 2]) ++ [idI u]) := ⟨by rw [htk, ← hpre]; simp [tgI]⟩
      rw [hpre] at hW
      obtain ⟨c1, c2, c3⟩ := hcell.out wr hW.out.bel
      replace r1 := Box.mk r1
      replace r2 := Box.mk r2
      replace haa := Box.mk haa
      clear hpre htk hx e2 e1 ha hc hig k1 k2 k3 hbl
      have hq := Box.mk (x_num hW.out (by first | omega | (simp only [List.length_append, List.length_cons, List.length_nil]; omega)) p 1 (.inl rfl) r1.out)
      go_wp2_with fail
      refine hq.out.mono ?_
      clear hq
      rintro e v8 ⟨rfl, hw, hk⟩
      replace hW := Box.mk hw
      replace hK := Box.mk (hK.out.trans hk)
      have hS8 := Box.mk (hk _ _ _ (by decide) hne.out hS7.out)
      clear hw hk hS7 s15 c1 c2 c3
      have s15 := (doc_cells hS8.out).2.2.2.2.2.2.2.2.2.2.2.2.2.2.2.1
      dsimp only at s15
      rw [hLB.out, haa.out] at s15
      obtain ⟨c1, c2, c3⟩ := hcell.out v8 hW.out.bel
      have hq := Box.mk (x_num hW.out (by first | omega | (simp only [List.length_append, List.length_cons, List.length_nil]; omega)) y 2 (.inr (.inl rfl)) r2.out)
      go_wp2_with fail
      refine hq.out.mono ?_
      clear hq
      rintro e v9 ⟨rfl, hw, hk⟩
      replace hW := Box.mk hw
      replace hK := Box.mk (hK.out.trans hk)
      have hS9 := Box.mk (hk _ _ _ (by decide) hne.out hS8.out)
      clear hw hk hS8 s15 c1 c2 c3
      have s15 := (doc_cells hS9.out).2.2.2.2.2.2.2.2.2.2.2.2.2.2.2.1
      dsimp only at s15
      rw [hLB.out, haa.out] at s15
      obtain ⟨c1, c2, c3⟩ := hcell.out v9 hW.out.bel
      have hq := Box.mk (x_hash hW.out (by first | omega | (simp only [List.length_append, List.length_cons, List.length_nil]; omega)) u)
      go_wp2_with fail
      refine hq.out.mono ?_
      clear hq
      rintro e v10 ⟨rfl, hw, hk⟩
      replace hW := Box.mk hw
      replace hK := Box.mk (hK.out.trans hk)
      have hS10 := Box.mk (hk _ _ _ (by decide) hne.out hS9.out)
      clear hw hk hS9 s15 c1 c2 c3
      have s15 := (doc_cells hS10.out).2.2.2.2.2.2.2.2.2.2.2.2.2.2.2.1
      dsimp only at s15
      rw [hLB.out, haa.out] at s15
      obtain ⟨c1, c2, c3⟩ := hcell.out v10 hW.out.bel
      rw [← hnx.out] at hW
      go_wp2_with fail
      exact ⟨⟨i + 1, by omega, by go_num, hW, hK, hS10⟩, by simp [intOf]; omega⟩
    · obtain rfl : i = L := by omega
      have hall : f.ls.take i = f.ls := by rw [← hLB.out, List.take_length]
      rw [hall] at hW
      have hW5 := hW.out.eq (show _ = itsD ⟨2, v, x, f⟩ by rw [← hLB.out]; simp [itsD, itsF])
      have hB5 := Box.mk (mono_bel hB2.out hW5.bel (Nat.le_refl _))
      have hq := x_bytes hW5 hfit.out
      clear hW hW5
      go_wp2_with fail
      refine hq.mono ?_
      clear hq
      rintro e w5 ⟨rfl, rfl⟩
      go_wp2_with fail
      go_returns
      exact ⟨rfl, hB5.out⟩
set_option maxHeartbeats 3200000 in
set_option maxRecDepth 100000 in
theorem rencode_3 (d : Dc) (z : Sl) (B : Nat) (w : World) (hL : NL B w) (hB : B ≤ w.heap.size) (hv : DcAt w z d) (ho : DcOk d) (hc : chkD d = true) (hk : d.k = 3) :
    Calls Tryz.prog 9 #[docV d z] w fun e w' => e = .returned (.tuple #[.string (Pk.btx (layD d)), .int .i64 0]) ∧ Below w.heap.size w w' := by
  obtain ⟨k, v, x, f⟩ := d
  dsimp only at hk
  subst hk
  obtain ⟨W1, hW1, hB1, hS1⟩ := doc_new w ⟨3, v, x, f⟩ z 30
  replace hS1 := Box.mk hS1
  have hC := mrcheck_any ⟨3, v, x, f⟩ z B W1 (hL.here hB hB1.out) (by have := hB1.out.size; omega) (hv.here hB1.out) ho
  have eE : chkDE ⟨3, v, x, f⟩ = 0 := by unfold chkDE; rw [hc]; rfl
  rw [eE] at hC
  have hvB := Box.mk hv
  have hoB := Box.mk ho
  have hfit := Box.mk (fit_doc hc)
  have hc2 := hc
  simp only [chkD, Bool.and_eq_true, decide_eq_true_iff] at hc2
  obtain ⟨rv, rx, rf⟩ := hc2
  have hvr : -9223372036854775808 ≤ v ∧ v ≤ 9223372036854775807 := by omega
  have hxr : -9223372036854775808 ≤ x ∧ x ≤ 9223372036854775807 := by omega
  unfold fldB at rf
  rw [if_neg (by decide), if_neg (by decide), if_pos rfl] at rf
  simp only [Bool.and_eq_true] at rf
  have u0 := Box.mk (lk_rng rf.2.2.2)
  have u1 := Box.mk (gC_rng rf.2.2.1)
  clear rf
  clear hL hB hv ho eE rv rx hc
  replace hvr := Box.mk hvr
  replace hxr := Box.mk hxr
  show Calls _ _ #[.agg (docL _ z).toArray] w _
  go_enter Tryz.func9, Tryz.ntmps9
  go_wp2_with (refine wpList_loadG (by rfl) 30 (.tmp 1) rfl w.heap.size 0 rfl (docL ⟨3, v, x, f⟩ z) _ (blk_range hS1.out) Tryz.underlying30 rfl (doc_size _ _) ?_)
  refine hC.mono ?_
  clear hC
  rintro e w1 ⟨rfl, hb⟩
  have hB2 := Box.mk (mono_bel hB1.out hb (Nat.le_refl _))
  have hS2 := doc_here hS1 hb
  clear hb hS1 hB1
  have hlt := hS2.out.lt
  obtain ⟨W2, hW2⟩ : ∃ W2, w1.alloc (.cells #[.slice none 0 0, .bool false] 75) = W2 := ⟨_, rfl⟩
  have hW : Box (Wr w1 W2 w1.heap.size 75 []) := ⟨by rw [← hW2]; exact wr_new _ _⟩
  have hS3 : Box (Pk.Blk W2 w.heap.size (docL ⟨3, v, x, f⟩ z) 30) := ⟨by rw [← hW2]; exact blk_here hS2.out (bel_alloc _ _)⟩
  have hK : Box (Kp w1.heap.size w1 W2) := ⟨by rw [← hW2]; exact Kp.below (bel_alloc _ _)⟩
  have hne : Box (w.heap.size ≠ w1.heap.size) := ⟨by omega⟩
  have hv1 := Box.mk (hvB.out.here hB2.out)
  obtain ⟨bw, hbw⟩ : ∃ bw, w1.heap.size = bw := ⟨_, rfl⟩
  rw [hbw] at hW hK hne
  obtain ⟨s0, s1, s2, s3, s4, s5, s6, s7, s8, s9, s10, s11, s12, s13, s14, s15, s16, s17, s18, s19, s20⟩ := doc_cells hS3.out
  dsimp only at s0 s1 s2 s3 s4 s5 s6 s7 s8 s9 s10 s11 s12 s13 s14 s15 s16 s17 s18 s19 s20
  clear hS2 hlt hvB
  have hq := Box.mk (x_num hW.out (by simp) 3 1 (.inl rfl) (by decide))
  go_wp2_with fail
  refine hq.out.mono ?_
  clear hq
  rintro e v4 ⟨rfl, hw, hk⟩
  replace hW := Box.mk hw
  replace hK := Box.mk (hK.out.trans hk)
  have hS4 := Box.mk (hk _ _ _ (by decide) hne.out hS3.out)
  clear hw hk hS3 s0 s1 s2 s3 s4 s5 s6 s7 s8 s9 s10 s11 s12 s13 s14 s15 s16 s17 s18 s19 s20
  obtain ⟨s0, s1, s2, s3, s4, s5, s6, s7, s8, s9, s10, s11, s12, s13, s14, s15, s16, s17, s18, s19, s20⟩ := doc_cells hS4.out
  dsimp only at s0 s1 s2 s3 s4 s5 s6 s7 s8 s9 s10 s11 s12 s13 s14 s15 s16 s17 s18 s19 s20
  have hq := Box.mk (x_num hW.out (by simp) v 2 (.inr (.inl rfl)) hvr.out)
  go_wp2_with fail
  refine hq.out.mono ?_
  clear hq
  rintro e v5 ⟨rfl, hw, hk⟩
  replace hW := Box.mk hw
  replace hK := Box.mk (hK.out.trans hk)
  have hS5 := Box.mk (hk _ _ _ (by decide) hne.out hS4.out)
  clear hw hk hS4 s0 s1 s2 s3 s4 s5 s6 s7 s8 s9 s10 s11 s12 s13 s14 s15 s16 s17 s18 s19 s20
  obtain ⟨s0, s1, s2, s3, s4, s5, s6, s7, s8, s9, s10, s11, s12, s13, s14, s15, s16, s17, s18, s19, s20⟩ := doc_cells hS5.out
  dsimp only at s0 s1 s2 s3 s4 s5 s6 s7 s8 s9 s10 s11 s12 s13 s14 s15 s16 s17 s18 s19 s20
  have hq := Box.mk (x_num hW.out (by simp) x 8 (.inr (.inr (.inr rfl))) hxr.out)
  go_wp2_with fail
  refine hq.out.mono ?_
  clear hq
  rintro e v6 ⟨rfl, hw, hk⟩
  replace hW := Box.mk hw
  replace hK := Box.mk (hK.out.trans hk)
  have hS6 := Box.mk (hk _ _ _ (by decide) hne.out hS5.out)
  clear hw hk hS5 s0 s1 s2 s3 s4 s5 s6 s7 s8 s9 s10 s11 s12 s13 s14 s15 s16 s17 s18 s19 s20
  obtain ⟨s0, s1, s2, s3, s4, s5, s6, s7, s8, s9, s10, s11, s12, s13, s14, s15, s16, s17, s18, s19, s20⟩ := doc_cells hS6.out
  dsimp only at s0 s1 s2 s3 s4 s5 s6 s7 s8 s9 s10 s11 s12 s13 s14 s15 s16 s17 s18 s19 s20
  have hq := Box.mk (x_num hW.out (by simp) f.oo 2 (.inr (.inl rfl)) u0.out)
  go_wp2_with fail
  refine hq.out.mono ?_
  clear hq
  rintro e v7 ⟨rfl, hw, hk⟩
  replace hW := Box.mk hw
  replace hK := Box.mk (hK.out.trans hk)
  have hS7 := Box.mk (hk _ _ _ (by decide) hne.out hS6.out)
  clear hw hk hS6 s0 s1 s2 s3 s4 s5 s6 s7 s8 s9 s10 s11 s12 s13 s14 s15 s16 s17 s18 s19 s20
  obtain ⟨s0, s1, s2, s3, s4, s5, s6, s7, s8, s9, s10, s11, s12, s13, s14, s15, s16, s17, s18, s19, s20⟩ := doc_cells hS7.out
  dsimp only at s0 s1 s2 s3 s4 s5 s6 s7 s8 s9 s10 s11 s12 s13 s14 s15 s16 s17 s18 s19 s20
  have hq := Box.mk (x_hash hW.out (by simp) f.hs)
  go_wp2_with fail
  refine hq.out.mono ?_
  clear hq
  rintro e v8 ⟨rfl, hw, hk⟩
  replace hW := Box.mk hw
  replace hK := Box.mk (hK.out.trans hk)
  have hS8 := Box.mk (hk _ _ _ (by decide) hne.out hS7.out)
  clear hw hk hS7 s0 s1 s2 s3 s4 s5 s6 s7 s8 s9 s10 s11 s12 s13 s14 s15 s16 s17 s18 s19 s20
  obtain ⟨s0, s1, s2, s3, s4, s5, s6, s7, s8, s9, s10, s11, s12, s13, s14, s15, s16, s17, s18, s19, s20⟩ := doc_cells hS8.out
  dsimp only at s0 s1 s2 s3 s4 s5 s6 s7 s8 s9 s10 s11 s12 s13 s14 s15 s16 s17 s18 s19 s20
  have hq := Box.mk (x_text hW.out (by simp) f.pt.o)
  go_wp2_with fail
  refine hq.out.mono ?_
  clear hq
  rintro e v9 ⟨rfl, hw, hk⟩
  replace hW := Box.mk hw
  replace hK := Box.mk (hK.out.trans hk)
  have hS9 := Box.mk (hk _ _ _ (by decide) hne.out hS8.out)
  clear hw hk hS8 s0 s1 s2 s3 s4 s5 s6 s7 s8 s9 s10 s11 s12 s13 s14 s15 s16 s17 s18 s19 s20
  obtain ⟨s0, s1, s2, s3, s4, s5, s6, s7, s8, s9, s10, s11, s12, s13, s14, s15, s16, s17, s18, s19, s20⟩ := doc_cells hS9.out
  dsimp only at s0 s1 s2 s3 s4 s5 s6 s7 s8 s9 s10 s11 s12 s13 s14 s15 s16 s17 s18 s19 s20
  have hq := Box.mk (x_num hW.out (by simp) f.pt.n 2 (.inr (.inl rfl)) u1.out)
  go_wp2_with fail
  refine hq.out.mono ?_
  clear hq
  rintro e v10 ⟨rfl, hw, hk⟩
  replace hW := Box.mk hw
  replace hK := Box.mk (hK.out.trans hk)
  have hS10 := Box.mk (hk _ _ _ (by decide) hne.out hS9.out)
  clear hw hk hS9 s0 s1 s2 s3 s4 s5 s6 s7 s8 s9 s10 s11 s12 s13 s14 s15 s16 s17 s18 s19 s20
  obtain ⟨s0, s1, s2, s3, s4, s5, s6, s7, s8, s9, s10, s11, s12, s13, s14, s15, s16, s17, s18, s19, s20⟩ := doc_cells hS10.out
  dsimp only at s0 s1 s2 s3 s4 s5 s6 s7 s8 s9 s10 s11 s12 s13 s14 s15 s16 s17 s18 s19 s20
  have hq := Box.mk (x_hash hW.out (by simp) f.pt.r)
  go_wp2_with fail
  refine hq.out.mono ?_
  clear hq
  rintro e v11 ⟨rfl, hw, hk⟩
  replace hW := Box.mk hw
  replace hK := Box.mk (hK.out.trans hk)
  have hS11 := Box.mk (hk _ _ _ (by decide) hne.out hS10.out)
  clear hw hk hS10 s0 s1 s2 s3 s4 s5 s6 s7 s8 s9 s10 s11 s12 s13 s14 s15 s16 s17 s18 s19 s20
  obtain ⟨s0, s1, s2, s3, s4, s5, s6, s7, s8, s9, s10, s11, s12, s13, s14, s15, s16, s17, s18, s19, s20⟩ := doc_cells hS11.out
  dsimp only at s0 s1 s2 s3 s4 s5 s6 s7 s8 s9 s10 s11 s12 s13 s14 s15 s16 s17 s18 s19 s20
  have hW5 := hW.out.eq (show _ = itsD ⟨3, v, x, f⟩ by simp [itsD, itsF])
  have hB5 := Box.mk (mono_bel hB2.out hW5.bel (Nat.le_refl _))
  have hq := x_bytes hW5 hfit.out
  clear hW hW5 s0 s1 s2 s3 s4 s5 s6 s7 s8 s9 s10 s11 s12 s13 s14 s15 s16 s17 s18 s19 s20
  go_wp2_with fail
  refine hq.mono ?_
  clear hq
  rintro e w5 ⟨rfl, rfl⟩
  go_wp2_with fail
  go_returns
  exact ⟨rfl, hB5.out⟩
set_option maxHeartbeats 3200000 in
set_option maxRecDepth 100000 in
theorem rencode_4 (d : Dc) (z : Sl) (B : Nat) (w : World) (hL : NL B w) (hB : B ≤ w.heap.size) (hv : DcAt w z d) (ho : DcOk d) (hc : chkD d = true) (hk : d.k = 4) :
    Calls Tryz.prog 9 #[docV d z] w fun e w' => e = .returned (.tuple #[.string (Pk.btx (layD d)), .int .i64 0]) ∧ Below w.heap.size w w' := by
  obtain ⟨k, v, x, f⟩ := d
  dsimp only at hk
  subst hk
  obtain ⟨W1, hW1, hB1, hS1⟩ := doc_new w ⟨4, v, x, f⟩ z 30
  replace hS1 := Box.mk hS1
  have hC := mrcheck_any ⟨4, v, x, f⟩ z B W1 (hL.here hB hB1.out) (by have := hB1.out.size; omega) (hv.here hB1.out) ho
  have eE : chkDE ⟨4, v, x, f⟩ = 0 := by unfold chkDE; rw [hc]; rfl
  rw [eE] at hC
  have hvB := Box.mk hv
  have hoB := Box.mk ho
  have hfit := Box.mk (fit_doc hc)
  have hc2 := hc
  simp only [chkD, Bool.and_eq_true, decide_eq_true_iff] at hc2
  obtain ⟨rv, rx, rf⟩ := hc2
  have hvr : -9223372036854775808 ≤ v ∧ v ≤ 9223372036854775807 := by omega
  have hxr : -9223372036854775808 ≤ x ∧ x ≤ 9223372036854775807 := by omega
  unfold fldB at rf
  rw [if_neg (by decide), if_neg (by decide), if_neg (by decide), if_pos rfl] at rf
  simp only [Bool.and_eq_true] at rf
  have u0 := Box.mk (lk_rng rf.2.2.2)
  clear rf
  clear hL hB hv ho eE rv rx hc
  replace hvr := Box.mk hvr
  replace hxr := Box.mk hxr
  show Calls _ _ #[.agg (docL _ z).toArray] w _
  go_enter Tryz.func9, Tryz.ntmps9
  go_wp2_with (refine wpList_loadG (by rfl) 30 (.tmp 1) rfl w.heap.size 0 rfl (docL ⟨4, v, x, f⟩ z) _ (blk_range hS1.out) Tryz.underlying30 rfl (doc_size _ _) ?_)
  refine hC.mono ?_
  clear hC
  rintro e w1 ⟨rfl, hb⟩
  have hB2 := Box.mk (mono_bel hB1.out hb (Nat.le_refl _))
  have hS2 := doc_here hS1 hb
  clear hb hS1 hB1
  have hlt := hS2.out.lt
  obtain ⟨W2, hW2⟩ : ∃ W2, w1.alloc (.cells #[.slice none 0 0, .bool false] 75) = W2 := ⟨_, rfl⟩
  have hW : Box (Wr w1 W2 w1.heap.size 75 []) := ⟨by rw [← hW2]; exact wr_new _ _⟩
  have hS3 : Box (Pk.Blk W2 w.heap.size (docL ⟨4, v, x, f⟩ z) 30) := ⟨by rw [← hW2]; exact blk_here hS2.out (bel_alloc _ _)⟩
  have hK : Box (Kp w1.heap.size w1 W2) := ⟨by rw [← hW2]; exact Kp.below (bel_alloc _ _)⟩
  have hne : Box (w.heap.size ≠ w1.heap.size) := ⟨by omega⟩
  have hv1 := Box.mk (hvB.out.here hB2.out)
  obtain ⟨bw, hbw⟩ : ∃ bw, w1.heap.size = bw := ⟨_, rfl⟩
  rw [hbw] at hW hK hne
  obtain ⟨s0, s1, s2, s3, s4, s5, s6, s7, s8, s9, s10, s11, s12, s13, s14, s15, s16, s17, s18, s19, s20⟩ := doc_cells hS3.out
  dsimp only at s0 s1 s2 s3 s4 s5 s6 s7 s8 s9 s10 s11 s12 s13 s14 s15 s16 s17 s18 s19 s20
  clear hS2 hlt hvB
  have hq := Box.mk (x_num hW.out (by simp) 4 1 (.inl rfl) (by decide))
  go_wp2_with fail
  refine hq.out.mono ?_
  clear hq
  rintro e v4 ⟨rfl, hw, hk⟩
  replace hW := Box.mk hw
  replace hK := Box.mk (hK.out.trans hk)
  have hS4 := Box.mk (hk _ _ _ (by decide) hne.out hS3.out)
  clear hw hk hS3 s0 s1 s2 s3 s4 s5 s6 s7 s8 s9 s10 s11 s12 s13 s14 s15 s16 s17 s18 s19 s20
  obtain ⟨s0, s1, s2, s3, s4, s5, s6, s7, s8, s9, s10, s11, s12, s13, s14, s15, s16, s17, s18, s19, s20⟩ := doc_cells hS4.out
  dsimp only at s0 s1 s2 s3 s4 s5 s6 s7 s8 s9 s10 s11 s12 s13 s14 s15 s16 s17 s18 s19 s20
  have hq := Box.mk (x_num hW.out (by simp) v 2 (.inr (.inl rfl)) hvr.out)
  go_wp2_with fail
  refine hq.out.mono ?_
  clear hq
  rintro e v5 ⟨rfl, hw, hk⟩
  replace hW := Box.mk hw
  replace hK := Box.mk (hK.out.trans hk)
  have hS5 := Box.mk (hk _ _ _ (by decide) hne.out hS4.out)
  clear hw hk hS4 s0 s1 s2 s3 s4 s5 s6 s7 s8 s9 s10 s11 s12 s13 s14 s15 s16 s17 s18 s19 s20
  obtain ⟨s0, s1, s2, s3, s4, s5, s6, s7, s8, s9, s10, s11, s12, s13, s14, s15, s16, s17, s18, s19, s20⟩ := doc_cells hS5.out
  dsimp only at s0 s1 s2 s3 s4 s5 s6 s7 s8 s9 s10 s11 s12 s13 s14 s15 s16 s17 s18 s19 s20
  have hq := Box.mk (x_num hW.out (by simp) x 8 (.inr (.inr (.inr rfl))) hxr.out)
  go_wp2_with fail
  refine hq.out.mono ?_
  clear hq
  rintro e v6 ⟨rfl, hw, hk⟩
  replace hW := Box.mk hw
  replace hK := Box.mk (hK.out.trans hk)
  have hS6 := Box.mk (hk _ _ _ (by decide) hne.out hS5.out)
  clear hw hk hS5 s0 s1 s2 s3 s4 s5 s6 s7 s8 s9 s10 s11 s12 s13 s14 s15 s16 s17 s18 s19 s20
  obtain ⟨s0, s1, s2, s3, s4, s5, s6, s7, s8, s9, s10, s11, s12, s13, s14, s15, s16, s17, s18, s19, s20⟩ := doc_cells hS6.out
  dsimp only at s0 s1 s2 s3 s4 s5 s6 s7 s8 s9 s10 s11 s12 s13 s14 s15 s16 s17 s18 s19 s20
  have hq := Box.mk (x_num hW.out (by simp) f.oo 2 (.inr (.inl rfl)) u0.out)
  go_wp2_with fail
  refine hq.out.mono ?_
  clear hq
  rintro e v7 ⟨rfl, hw, hk⟩
  replace hW := Box.mk hw
  replace hK := Box.mk (hK.out.trans hk)
  have hS7 := Box.mk (hk _ _ _ (by decide) hne.out hS6.out)
  clear hw hk hS6 s0 s1 s2 s3 s4 s5 s6 s7 s8 s9 s10 s11 s12 s13 s14 s15 s16 s17 s18 s19 s20
  obtain ⟨s0, s1, s2, s3, s4, s5, s6, s7, s8, s9, s10, s11, s12, s13, s14, s15, s16, s17, s18, s19, s20⟩ := doc_cells hS7.out
  dsimp only at s0 s1 s2 s3 s4 s5 s6 s7 s8 s9 s10 s11 s12 s13 s14 s15 s16 s17 s18 s19 s20
  have hq := Box.mk (x_hash hW.out (by simp) f.hs)
  go_wp2_with fail
  refine hq.out.mono ?_
  clear hq
  rintro e v8 ⟨rfl, hw, hk⟩
  replace hW := Box.mk hw
  replace hK := Box.mk (hK.out.trans hk)
  have hS8 := Box.mk (hk _ _ _ (by decide) hne.out hS7.out)
  clear hw hk hS7 s0 s1 s2 s3 s4 s5 s6 s7 s8 s9 s10 s11 s12 s13 s14 s15 s16 s17 s18 s19 s20
  obtain ⟨s0, s1, s2, s3, s4, s5, s6, s7, s8, s9, s10, s11, s12, s13, s14, s15, s16, s17, s18, s19, s20⟩ := doc_cells hS8.out
  dsimp only at s0 s1 s2 s3 s4 s5 s6 s7 s8 s9 s10 s11 s12 s13 s14 s15 s16 s17 s18 s19 s20
  have hW5 := hW.out.eq (show _ = itsD ⟨4, v, x, f⟩ by simp [itsD, itsF])
  have hB5 := Box.mk (mono_bel hB2.out hW5.bel (Nat.le_refl _))
  have hq := x_bytes hW5 hfit.out
  clear hW hW5 s0 s1 s2 s3 s4 s5 s6 s7 s8 s9 s10 s11 s12 s13 s14 s15 s16 s17 s18 s19 s20
  go_wp2_with fail
  refine hq.mono ?_
  clear hq
  rintro e w5 ⟨rfl, rfl⟩
  go_wp2_with fail
  go_returns
  exact ⟨rfl, hB5.out⟩
set_option maxHeartbeats 3200000 in
set_option maxRecDepth 100000 in
theorem rencode_any (d : Dc) (z : Sl) (B : Nat) (w : World) (hL : NL B w) (hB : B ≤ w.heap.size) (hv : DcAt w z d) (ho : DcOk d) :
    Calls Tryz.prog 9 #[docV d z] w fun e w' => e = .returned (encR d) ∧ Below w.heap.size w w' := by
  rcases Bool.eq_false_or_eq_true (chkD d) with hc | hc
  · have eR : encR d = .tuple #[.string (Pk.btx (layD d)), .int .i64 0] := by unfold encR encV; rw [hc]; rfl
    rw [eR]
    rcases (chk_len hc).2 with hk | hk | hk | hk
    · exact rencode_1 d z B w hL hB hv ho hc hk
    · exact rencode_2 d z B w hL hB hv ho hc hk
    · exact rencode_3 d z B w hL hB hv ho hc hk
    · exact rencode_4 d z B w hL hB hv ho hc hk
  · obtain ⟨W1, hW1, hB1, hS1⟩ := doc_new w d z 30
    replace hS1 := Box.mk hS1
    have hC := mrcheck_any d z B W1 (hL.here hB hB1.out) (by have := hB1.out.size; omega) (hv.here hB1.out) ho
    clear hL hB hv ho
    have eE : chkDE d = 1 := by unfold chkDE; rw [hc]; rfl
    rw [eE] at hC
    have eR : encR d = .tuple #[.string ⟨#[]⟩, .int .i64 1] := by unfold encR encV; rw [hc]; rfl
    rw [eR]
    clear eE eR hc
    show Calls _ _ #[.agg (docL _ z).toArray] w _
    go_enter Tryz.func9, Tryz.ntmps9
    go_wp2_with (refine wpList_loadG (by rfl) 30 (.tmp 1) rfl w.heap.size 0 rfl (docL d z) _ (blk_range hS1.out) Tryz.underlying30 rfl (doc_size _ _) ?_)
    refine hC.mono ?_
    clear hC
    rintro e w1 ⟨rfl, hb⟩
    have hB2 := Box.mk (mono_bel hB1.out hb (Nat.le_refl _))
    clear hb hB1
    go_wp2_with fail
    go_returns
    exact ⟨rfl, hB2.out⟩
end Go.Proofs.YtiblkfkeifnpaaaGreatDoor.Me
