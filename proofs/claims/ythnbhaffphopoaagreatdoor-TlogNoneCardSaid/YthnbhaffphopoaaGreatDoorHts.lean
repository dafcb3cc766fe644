/- Walk of the law TlogNone. -/
import Derived.Test.YthnbhaffphopoaaGreatDoorHtq
import Derived.Test.YthnbhaffphopoaaGreatDoorHck
namespace Go.Proofs.YthnbhaffphopoaaGreatDoor.Tg
open Go Go.RowKit Go.Proofs.YthnbhaffphopoaaGreatDoor.Pk Go.Proofs.YthnbhaffphopoaaGreatDoor.Nt

def zL (i : Nat) : LogM := ⟨Pk.M0, 0, [], List.replicate i (Pk.zs 1024)⟩
def cOS0 : Cfg := ⟨⟨#[111]⟩, ⟨#[115]⟩, 0⟩
def cO (h : Nat) : Cfg := ⟨⟨#[111]⟩, ⟨#[]⟩, h⟩
theorem cOS0_ok : cOS0.ok := ⟨by decide +kernel, by decide, by decide⟩
theorem cO_ok (h : Nat) (hh : h ≤ 4) : (cO h).ok := ⟨by show gO [111] = true; decide +kernel, hh, by show (⟨#[]⟩ : ByteArray).size ≤ 140737488351232; decide⟩
theorem lvB_rep (x : ByteArray) : ∀ i, (lvB (List.replicate i x)).length = i * (2 + x.size)
  | 0 => by simp [lvB]
  | i + 1 => by rw [List.replicate_succ', lvB_snoc_len, lvB_rep x i, Nat.succ_mul]; omega
theorem zL_ok (i : Nat) (hi : i ≤ 63) (c : Cfg) : (zL i).ok c := by
  refine ⟨fun x hx => ?_, by show 0 + (List.replicate i (Pk.zs 1024)).length ≤ 1024; rw [List.length_replicate]; omega, ?_, Nat.zero_le _⟩
  · have : x = Pk.zs 1024 := by
      have : x ∈ List.replicate i (Pk.zs 1024) := by simpa [zL] using hx
      exact (List.mem_replicate.1 this).2
    rw [this, Pk.zs_size]
    omega
  · show (lvB ([] ++ List.replicate i (Pk.zs 1024))).length ≤ 65535
    rw [List.nil_append, lvB_rep, Pk.zs_size]
    omega
theorem zL_add (i : Nat) (hi : i < 63) : addE (zL i) (Pk.zs 1024) = 0 ∧ addM (zL i) (Pk.zs 1024) = zL (i + 1) := by
  have h : addE (zL i) (Pk.zs 1024) = 0 := by
    unfold addE
    rw [if_neg (by rw [Pk.zs_size]; omega), if_neg]
    show ¬ (1024 ≤ 0 + (List.replicate i (Pk.zs 1024)).length ∨ 65535 < (lvB ([] ++ List.replicate i (Pk.zs 1024))).length + 2 + (Pk.zs 1024).size)
    rw [List.nil_append, lvB_rep, Pk.zs_size, List.length_replicate]
    omega
  refine ⟨h, ?_⟩
  unfold addM
  rw [if_pos h]
  show (⟨Pk.M0, 0, [], List.replicate i (Pk.zs 1024) ++ [Pk.zs 1024]⟩ : LogM) = _
  rw [← List.replicate_succ']
  rfl
theorem zL_full (i : Nat) (hi : i = 63) : addE (zL i) (Pk.zs 1024) = 6 ∧ addM (zL i) (Pk.zs 1024) = zL i := by
  have h : addE (zL i) (Pk.zs 1024) = 6 := by
    unfold addE
    rw [if_neg (by rw [Pk.zs_size]; omega), if_pos]
    show (1024 ≤ 0 + (List.replicate i (Pk.zs 1024)).length ∨ 65535 < (lvB ([] ++ List.replicate i (Pk.zs 1024))).length + 2 + (Pk.zs 1024).size)
    rw [List.nil_append, lvB_rep, Pk.zs_size, List.length_replicate]
    omega
  exact ⟨h, by unfold addM; rw [h, if_neg (by decide)]⟩
theorem zL_long : addE (zL 0) (Pk.zs 1025) = 4 ∧ addM (zL 0) (Pk.zs 1025) = zL 0 := by
  have h : addE (zL 0) (Pk.zs 1025) = 4 := by
    unfold addE
    rw [if_pos (by rw [Pk.zs_size]; omega)]
  exact ⟨h, by unfold addM; rw [h, if_neg (by decide)]⟩
set_option maxHeartbeats 6400000 in
set_option maxRecDepth 100000 in
theorem law_none (leaf : ByteArray) (height : Int) (w : World) (hE : Env w) : Calls Tryz.prog 8 #[.string leaf, .int .i64 height] w fun e w' => e = .returned (.bool true) ∧ Below w.heap.size w w' := by
  have hL := Box.mk (logs_any w hE)
  have hO := Box.mk (fun bd w1 (hk : Kept w (Pair2 (DevO bd (Dev.new 3000)) NoO) w1) => topen_new hE NoO.good cOS0 cOS0_ok 3000 0 1100 (by decide) (by decide) (by decide) hk)
  replace hE := Box.mk hE
  obtain ⟨i5, hi5, hz5, hz51, hz52⟩ := info_parts infoY
  have hH := Box.mk (And.intro hi5 (And.intro hz5 (And.intro hz51 hz52)))
  clear hi5 hz5 hz51 hz52
  go_enter Tryz.func8, Tryz.ntmps8
  go_wp2_with fail
  refine hL.out.mono ?_
  clear hL
  rintro e wa ⟨rfl, hba⟩
  have hN := newdev_kept hba.out 3000 (by decide) (by decide)
  clear hba
  go_wp2_with fail
  refine hN.mono ?_
  clear hN
  rintro e w1 ⟨bd, rfl, hk1⟩
  have hG := hO.out bd w1 (kept_no (DevO.good _ _) hk1.out)
  unfold cfgV cOS0 at hG
  clear hO hk1
  go_wp2_with fail
  refine hG.mono ?_
  clear hG
  rintro e w2 ⟨bl, bc, bk, rfl, hk2⟩
  have gT : Pk.Good (Pair2 (TLx ⟨bd, bl, bc, bk⟩ 0 1100 cOS0 (Dev.new 3000) (zL 0)) NoO) := Pair2.good TLx.good NoO.good
  replace gT := Box.mk gT
  replace hk2 : Box (Kept w (Pair2 (TLx ⟨bd, bl, bc, bk⟩ 0 1100 cOS0 (Dev.new 3000) (zL 0)) NoO) w2) := hk2
  go_wp2_with (at_make; refine wpList_makeG rfl (.const (.int .i64 1025)) (.const (.int .i64 1025)) 47 rfl w2.heap.size 5 i5 (.int .u8 0) 1 Tryz.underlying47 hH.out.1 hH.out.2.1 hH.out.2.2.1 .i64 .i64 _ _ 1025 rfl rfl rfl rfl (by rw [hH.out.2.2.2]; omega) (by unfold maxLen; omega) (Nat.le_refl _) ?_; intro w3 hown hg; have hconv := zeros_convG w3 _ _ _ hown; have hk3 := Box.mk (hk2.out.below gT.out (grown_below hg)); clear hown hg)
  obtain ⟨vl, vh, vp, hk4⟩ := tlx_open hk3.out
  have hG := tadd_any (p := ⟨bd, bl, bc, bk⟩) hk4 NoO.good (zL_ok 0 (by decide) _) (Pk.zs 1025) (by rw [Pk.zs_size]; decide)
  rw [zL_long.1, zL_long.2] at hG
  clear hk4 hk3 hk2
  refine hG.mono ?_
  clear hG hconv
  rintro e w4 ⟨rfl, hk4⟩
  go_wp2_with (at_make; refine wpList_makeG rfl (.const (.int .i64 1024)) (.const (.int .i64 1024)) 47 rfl w4.heap.size 5 i5 (.int .u8 0) 1 Tryz.underlying47 hH.out.1 hH.out.2.1 hH.out.2.2.1 .i64 .i64 _ _ 1024 rfl rfl rfl rfl (by rw [hH.out.2.2.2]; omega) (by unfold maxLen; omega) (Nat.le_refl _) ?_; intro w5 hown hg; have hconv := zeros_convG w5 _ _ _ hown; have hk5 := Box.mk (hk4.out.below gT.out (grown_below hg)); clear hown hg)
  clear hconv hk4 gT
  obtain ⟨zt, hzt⟩ : ∃ x, Pk.zs 1024 = x := ⟨_, rfl⟩
  rw [hzt]
  go_loopw [51] (fun s51 wr => ∃ i : Nat, i ≤ 63 ∧ s51 = .int .i64 i ∧ Box (Kept w (Pair2 (TLx ⟨bd, bl, bc, bk⟩ 0 1100 cOS0 (Dev.new 3000) (zL i)) NoO) wr)) (fun s51 _ => 63 - (intOf s51).toNat)
  case atStart => exact ⟨0, by omega, rfl, hk5⟩
  case round =>
    clear hk5
    obtain ⟨i, hi, rfl, hK⟩ := hrel
    obtain ⟨vl, vh, vp, hK⟩ := tlx_open hK.out
    by_cases hlt : i < 63
    · have hG := tadd_any (p := ⟨bd, bl, bc, bk⟩) hK NoO.good (zL_ok i hi _) (Pk.zs 1024) (by rw [Pk.zs_size]; decide)
      rw [(zL_add i hlt).1, (zL_add i hlt).2, hzt] at hG
      have hlti : (i : Int) < 63 := by omega
      have h9 := Box.mk hlt
      clear hK hzt hH hlt
      go_wp2_with fail
      refine hG.mono ?_
      clear hG
      rintro e w6 ⟨rfl, hK6⟩
      go_wp2_with fail
      exact ⟨⟨i + 1, by have := h9.out; omega, by go_num, hK6⟩, by simp [intOf]; have := h9.out; omega⟩
    · have hi63 : i = 63 := by omega
      subst hi63
      have hG := tadd_any (p := ⟨bd, bl, bc, bk⟩) hK NoO.good (zL_ok 63 hi _) (Pk.zs 1024) (by rw [Pk.zs_size]; decide)
      rw [(zL_full 63 rfl).1, (zL_full 63 rfl).2, hzt] at hG
      clear hK hzt hH hlt
      go_wp2_with fail
      refine hG.mono ?_
      clear hG
      rintro e w6 ⟨rfl, hK6⟩
      obtain ⟨vl, vh, vp, hK6⟩ := tlx_open hK6.out
      have hG := tpend_any hK6
      have hp63 : ((zL 63).pd.length : Int) = 63 := by show ((List.replicate 63 (Pk.zs 1024)).length : Int) = 63; rw [List.length_replicate]; rfl
      rw [hp63] at hG
      clear hp63
      replace hK6 := Box.mk hK6
      go_wp2_with fail
      refine hG.mono ?_
      clear hG
      rintro e w7 ⟨rfl, rfl⟩
      have g6 : Pk.Good (Pair2 (TLo ⟨bd, bl, bc, bk⟩ 0 1100 cOS0 (Dev.new 3000) (zL 63) vl vh vp) NoO) := Pair2.good TLo.good NoO.good
      have hG := topen_err hE.out g6 hK6.out (cO_ok 0 (by decide)) Pk.M0 (.pointer none) 0 10 1 (by decide) (fun Y w1 _ _ => (open_nil 0 10 w1).mono fun e w' ⟨h1, h2⟩ => ⟨h1, h2⟩)
      unfold cfgV cO at hG
      clear hK6 g6
      go_wp2_with fail
      refine hG.mono ?_
      clear hG
      rintro e w8 ⟨rfl, hK8⟩
      by_cases hh : 0 ≤ height ∧ height ≤ 4
      · obtain ⟨n, rfl⟩ : ∃ n : Nat, height = n := ⟨height.toNat, by omega⟩
        have s0 := Sound.new 3000 0 10 (by decide) (by decide) (by decide)
        have hu := us_none (c := Pk.M0.now) rfl
        have gX : Pk.Good (Pair2 (CelO bd bc 0 1100 (zL 63).C) (Pair2 (Pair2 (KeyO bk cOS0.s cOS0.h (zL 63).u) (LrO bl cOS0.o bk bc (zL 63).lv (zL 63).pd vl vh vp)) NoO)) :=
          Pair2.good (CelO.good _ _ _ _ _) (Pair2.good (Pair2.good (KeyO.good _ _ _ _) (LrO.good _ _ _ _ _ _ _ _ _)) NoO.good)
        have hk8 : Kept w (Pair2 (DevO bd (Dev.new 3000)) (Pair2 (CelO bd bc 0 1100 (zL 63).C) (Pair2 (Pair2 (KeyO bk cOS0.s cOS0.h (zL 63).u) (LrO bl cOS0.o bk bc (zL 63).lv (zL 63).pd vl vh vp)) NoO))) w8 := kept_cv hK8.out (cvAssoc.trans cvAssoc)
        have hG := topen_any (b := 0) (h := 10) (c := cO n) (M := Pk.M0) (ls := []) hE.out gX hk8 (cO_ok n (by omega)) rfl (by decide) (by show 0 + 2 * 10 ≤ (List.replicate 3000 zeroS).length; rw [List.length_replicate]; decide) s0.opens rfl rfl s0.ok lvB_nil' hu.2
        unfold cfgV cO at hG
        have h0 : ¬ (n : Int) < 0 := by omega
        have h4 : ¬ (n : Int) > 4 := by omega
        clear hK8 hk8 gX s0 hu hh
        go_wp2_with fail
        refine hG.mono ?_
        clear hG
        rintro e w9 ⟨b2, c2, k2, rfl, hk9⟩
        have hB := Box.mk hk9.out.k
        clear hk9
        go_wp2_with fail
        refine (tseq_nil _).mono ?_
        rintro e wn ⟨rfl, rfl⟩
        go_wp2_with fail
        refine (tissue_nil _).mono ?_
        rintro e wn ⟨rfl, rfl⟩
        go_wp2_with fail
        refine (tleaf_nil _ 0).mono ?_
        rintro e wn ⟨rfl, rfl⟩
        go_wp2_with fail
        refine (tfile_nil _ leaf).mono ?_
        rintro e wn ⟨rfl, rfl⟩
        go_wp2_with fail
        refine (tadd_nil _ leaf).mono ?_
        rintro e wn ⟨rfl, rfl⟩
        go_wp2_with fail
        refine (tid_nil _).mono ?_
        rintro e wn ⟨rfl, rfl⟩
        go_wp2_with fail
        refine (tnote_nil _).mono ?_
        rintro e wn ⟨rfl, rfl⟩
        go_wp2_with fail
        refine (tpend_nil _).mono ?_
        rintro e wn ⟨rfl, rfl⟩
        go_wp2_with fail
        refine (tsize_nil _).mono ?_
        rintro e wn ⟨rfl, rfl⟩
        go_wp2_with fail
        refine (tleft_nil _).mono ?_
        rintro e wn ⟨rfl, rfl⟩
        go_wp2_with fail
        go_returns
        exact ⟨rfl, hB.out⟩
      · have g6 : Pk.Good (Pair2 (TLo ⟨bd, bl, bc, bk⟩ 0 1100 cOS0 (Dev.new 3000) (zL 63) vl vh vp) NoO) := Pair2.good TLo.good NoO.good
        have hG := topen_height g6 hK8.out (.pointer (some ⟨bd, 0, none⟩)) 0 10 ⟨#[111]⟩ ⟨#[]⟩ height (by omega)
        unfold cfgV at hG
        clear hK8 g6
        go_wp2_with fail
        refine hG.mono ?_
        clear hG
        rintro e w9 ⟨rfl, hk9⟩
        have hB := Box.mk hk9.out.k
        clear hk9
        by_cases hlo : height < 0
        · clear hh
          go_wp2_with fail
          refine (tseq_nil _).mono ?_
          rintro e wn ⟨rfl, rfl⟩
          go_wp2_with fail
          refine (tissue_nil _).mono ?_
          rintro e wn ⟨rfl, rfl⟩
          go_wp2_with fail
          refine (tleaf_nil _ 0).mono ?_
          rintro e wn ⟨rfl, rfl⟩
          go_wp2_with fail
          refine (tfile_nil _ leaf).mono ?_
          rintro e wn ⟨rfl, rfl⟩
          go_wp2_with fail
          refine (tadd_nil _ leaf).mono ?_
          rintro e wn ⟨rfl, rfl⟩
          go_wp2_with fail
          refine (tid_nil _).mono ?_
          rintro e wn ⟨rfl, rfl⟩
          go_wp2_with fail
          refine (tnote_nil _).mono ?_
          rintro e wn ⟨rfl, rfl⟩
          go_wp2_with fail
          refine (tpend_nil _).mono ?_
          rintro e wn ⟨rfl, rfl⟩
          go_wp2_with fail
          refine (tsize_nil _).mono ?_
          rintro e wn ⟨rfl, rfl⟩
          go_wp2_with fail
          refine (tleft_nil _).mono ?_
          rintro e wn ⟨rfl, rfl⟩
          go_wp2_with fail
          go_returns
          exact ⟨rfl, hB.out⟩
        · have hhi : height > 4 := by omega
          clear hh
          go_wp2_with fail
          refine (tseq_nil _).mono ?_
          rintro e wn ⟨rfl, rfl⟩
          go_wp2_with fail
          refine (tissue_nil _).mono ?_
          rintro e wn ⟨rfl, rfl⟩
          go_wp2_with fail
          refine (tleaf_nil _ 0).mono ?_
          rintro e wn ⟨rfl, rfl⟩
          go_wp2_with fail
          refine (tfile_nil _ leaf).mono ?_
          rintro e wn ⟨rfl, rfl⟩
          go_wp2_with fail
          refine (tadd_nil _ leaf).mono ?_
          rintro e wn ⟨rfl, rfl⟩
          go_wp2_with fail
          refine (tid_nil _).mono ?_
          rintro e wn ⟨rfl, rfl⟩
          go_wp2_with fail
          refine (tnote_nil _).mono ?_
          rintro e wn ⟨rfl, rfl⟩
          go_wp2_with fail
          refine (tpend_nil _).mono ?_
          rintro e wn ⟨rfl, rfl⟩
          go_wp2_with fail
          refine (tsize_nil _).mono ?_
          rintro e wn ⟨rfl, rfl⟩
          go_wp2_with fail
          refine (tleft_nil _).mono ?_
          rintro e wn ⟨rfl, rfl⟩
          go_wp2_with fail
          go_returns
          exact ⟨rfl, hB.out⟩
end Go.Proofs.YthnbhaffphopoaaGreatDoor.Tg
