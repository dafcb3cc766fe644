/- Walks of (*Log).Sequence and Add. -/
import Derived.Test.YthpfpkikmaiddaaGreatDoorGte
set_option linter.all false
set_option linter.unusedVariables false
set_option linter.unusedSimpArgs false
namespace Go.Proofs.YthpfpkikmaiddaaGreatDoor.Tg
open Go Go.RowKit Go.Proofs.YthpfpkikmaiddaaGreatDoor.Pk Go.Proofs.YthpfpkikmaiddaaGreatDoor.Nt

theorem PlAt.lr {w w' : World} {bl : Nat} {o : ByteArray} {bk bc : Nat} {vl vh vp x y : Value} {lv hs lv' pd : List ByteArray} {F : Nat → Prop} (h : PlAt w bl o bk bc vl vh vp lv' (lv'.map leafH) x y w') (k : LrO bl o bk bc lv pd vl vh vp w F) (_ : hs = lv.map leafH) :
    LrO bl o bk bc lv' pd x y vp w' (Ext F w w') ∧ Chg F w w' := by
  have hvb := txr_apart k.rp k.blk (by decide)
  refine ⟨⟨h.blk, h.rl, h.rh, k.rp.chg h.chg fun i hi e => ?_, .inl k.fb, fun i hi => ?_, fun i hi => ?_, fun i hi => .inl (k.fp i hi), h.lh, fun i hi e => ?_, fun i hi e => ?_, fun i hi => ?_⟩, h.chg.mono fun i _ e => ?_⟩
  · rcases e with e | e | e
    · exact hvb (by rw [hi, e])
    · exact k.lp i e hi
    · exact k.hp i e hi
  · rcases h.pl i hi with e | e
    · exact .inl (k.fl i e)
    · exact .inr ⟨e, (h.rl.own i hi).2⟩
  · rcases h.ph i hi with e | e
    · exact .inl (k.fh i e)
    · exact .inr ⟨e, (h.rh.own i hi).2⟩
  · rcases h.pl i hi with e2 | e2
    · exact k.lp i e2 e
    · have := (k.rp.own i e).2; omega
  · rcases h.ph i hi with e2 | e2
    · exact k.hp i e2 e
    · have := (k.rp.own i e).2; omega
  · rcases hi with hi | hi
    · exact Nat.lt_of_lt_of_le (k.lt i hi) h.chg.size
    · exact hi.2
  · rcases e with e | e | e
    · exact e ▸ k.fb
    · exact k.fl i e
    · exact k.fh i e
section
variable {w0 w : World} {p : Pl} {b h : Nat} {c : Cfg} {D : Dev} {L : LogM} {vl vh vp : Value} {X : Pk.Obj}
theorem tplace_any (hE : Env w0) (hk : Kept w0 (Pair2 (TLo p b h c D L vl vh vp) X) w) (gX : Pk.Good X) (ps : List ByteArray) (a : Option Addr) (n cc : Nat) (hP : PA w a n cc ps) (hap : ApartOf a p.bl vl vh) (hls : ∀ x ∈ ps, x.size ≤ 65535) (hn : L.lv.length + n ≤ 1000000) :
    Calls Tryz.prog 39 #[.pointer (some ⟨p.bl, 0, none⟩), .slice a n cc] w fun e w' => e = .returned (.tuple #[]) ∧ Box (∃ x y, Kept w0 (Pair2 (TLo p b h c D { L with lv := L.lv ++ ps } x y vp) X) w') := by
  obtain ⟨F, hL, hF0, _⟩ := tl_lr hk
  have hlt := hE.kis.lt
  have hKr : 3 ≠ p.bl ∧ vl.ownBlock ≠ some 3 ∧ vh.ownBlock ≠ some 3 :=
    ⟨fun e => by have := hF0 _ hL.fb; omega, fun e => by have := hF0 _ (hL.fl _ e); omega, fun e => by have := hF0 _ (hL.fh _ e); omega⟩
  have h0 : PlAt w p.bl c.o p.bk p.bc vl vh vp L.lv (L.lv.map leafH) vl vh w := ⟨hL.blk, hL.rl, hL.rh, fun _ => .inl, fun _ => .inl, hL.lh, Chg.refl _ _⟩
  refine (place_any p.bl c.o p.bk p.bc vl vh vp L.lv (L.lv.map leafH) ps a n cc w (hE.kisAt hk.k) h0 hP hap hls hn (by rw [List.length_map]; exact hn) hKr).mono ?_
  rintro e w' ⟨rfl, x, y, h1⟩
  rw [← List.map_append] at h1
  exact ⟨rfl, ⟨x, y, tl_move hk gX rfl rfl fun F1 k1 => h1.lr k1 rfl⟩⟩
theorem tcommit_lv {k : Nat} (gX : Pk.Good X) (hk : Kept w0 (Pair2 (TLo p b h c D L vl vh vp) X) w) (hB : Bd k D L.C) (h99 : k ≤ 99) (t : Bs) (ht : t.length ≤ maxLen) :
    Calls Tryz.prog 42 #[.pointer (some ⟨p.bl, 0, none⟩), .string ⟨#[108, 101, 97, 118, 101, 115]⟩, .string (btx t)] w fun e w' => e = .returned (.int .i64 (pcE b h D L.C nLv t)) ∧
      Box (Kept w0 (Pair2 (TLo p b h c (pcD b h D L.C nLv t) { L with C := pcC b h D L.C nLv t } vl vh vp) X) w') := by
  have h1 := tcommit_any gX hk hB h99 ⟨#[108, 101, 97, 118, 101, 115]⟩ (btx t) (by decide) (by rw [mk_size]; exact ht)
  rw [mk_list] at h1
  exact h1
theorem tcommit_us {k : Nat} (gX : Pk.Good X) (hk : Kept w0 (Pair2 (TLo p b h c D L vl vh vp) X) w) (hB : Bd k D L.C) (h99 : k ≤ 99) (t : Bs) (ht : t.length ≤ maxLen) :
    Calls Tryz.prog 42 #[.pointer (some ⟨p.bl, 0, none⟩), .string ⟨#[117, 115, 101, 100]⟩, .string (btx t)] w fun e w' => e = .returned (.int .i64 (pcE b h D L.C nUs t)) ∧
      Box (Kept w0 (Pair2 (TLo p b h c (pcD b h D L.C nUs t) { L with C := pcC b h D L.C nUs t } vl vh vp) X) w') := by
  have h1 := tcommit_any gX hk hB h99 ⟨#[117, 115, 101, 100]⟩ (btx t) (by decide) (by rw [mk_size]; exact ht)
  rw [mk_list] at h1
  exact h1
theorem tcommit_no {k : Nat} (gX : Pk.Good X) (hk : Kept w0 (Pair2 (TLo p b h c D L vl vh vp) X) w) (hB : Bd k D L.C) (h99 : k ≤ 99) (t : Bs) (ht : t.length ≤ maxLen) :
    Calls Tryz.prog 42 #[.pointer (some ⟨p.bl, 0, none⟩), .string ⟨#[110, 111, 116, 101]⟩, .string (btx t)] w fun e w' => e = .returned (.int .i64 (pcE b h D L.C nNo t)) ∧
      Box (Kept w0 (Pair2 (TLo p b h c (pcD b h D L.C nNo t) { L with C := pcC b h D L.C nNo t } vl vh vp) X) w') := by
  have h1 := tcommit_any gX hk hB h99 ⟨#[110, 111, 116, 101]⟩ (btx t) (by decide) (by rw [mk_size]; exact ht)
  rw [mk_list] at h1
  exact h1
/-- The pending ones are gone. -/
theorem tl_clear (hk : Kept w0 (Pair2 (TLo p b h c D L vl vh vp) X) w) (gX : Pk.Good X) : Kept w0 (Pair2 (TLo p b h c D { L with pd := [] } vl vh (.slice none 0 0)) X) (w.setCell ⟨p.bl, 5, none⟩ (.slice none 0 0)) := by
  refine tl_move hk gX rfl rfl fun F k => ?_
  have hc : Chg (fun i => i = p.bl) w (w.setCell ⟨p.bl, 5, none⟩ (.slice none 0 0)) := (Chg.refl (fun i => i = p.bl) w).setCell (p := ⟨p.bl, 5, none⟩) rfl _
  refine ⟨⟨k.blk.setCell 5 _, txr_set k.rl k.blk (by decide) 5 _, txr_set k.rh k.blk (by decide) 5 _, TxR.nil _ _, .inl k.fb, fun i hi => .inl (k.fl i hi), fun i hi => .inl (k.fh i hi), fun i hi => (by cases hi), k.lh, fun i _ e => (by cases e), fun i _ e => (by cases e), fun i hi => ?_⟩, hc.mono fun i _ e => e ▸ k.fb⟩
  rcases hi with hi | hi
  · exact Nat.lt_of_lt_of_le (k.lt i hi) hc.size
  · exact hi.2
set_option maxHeartbeats 3200000 in
set_option maxRecDepth 100000 in
theorem tsequence_any {k : Nat} (hE : Env w0) (hk : Kept w0 (Pair2 (TLo p b h c D L vl vh vp) X) w) (gX : Pk.Good X) (hL : L.ok c) (hB : Bd k D L.C) (h99 : k ≤ 99) :
    Calls Tryz.prog 12 #[.pointer (some ⟨p.bl, 0, none⟩)] w fun e w' => e = .returned (.tuple #[.int .i64 (seqN b h D L : Int), .int .i64 (seqE b h D L)]) ∧ Box (Kept w0 (Pair2 (TLx p b h c (seqD b h D L) (seqM b h D L)) X) w') := by
  obtain ⟨hrow, _, a5, cc5, hvp, hP5⟩ := tl_rows hk
  obtain ⟨F, hLr, _, _⟩ := tl_lr hk
  have c5 : w.cell? ⟨p.bl, 5, none⟩ = some (.slice a5 L.pd.length cc5) := by rw [← hvp]; exact (tl_blk hk).cell 5
  unfold seqN seqE seqD seqM
  by_cases hp : L.pd = []
  · rw [if_pos hp, if_pos hp, if_pos hp, if_pos hp]
    rw [hp] at c5
    have hS := tsize_any hk
    obtain ⟨bl, hbl⟩ : ∃ x, p.bl = x := ⟨_, rfl⟩
    rw [hbl] at hS c5
    rw [hbl]
    have hkB := Box.mk (tlx_close hk)
    clear hk hP5 hLr hrow hvp hp hbl hL hB gX hE
    go_enter Tryz.func12, Tryz.ntmps12
    go_wp2_with fail
    refine hS.mono ?_
    clear hS
    rintro e w1 ⟨rfl, rfl⟩
    go_wp2_with fail
    go_returns
    exact ⟨rfl, hkB⟩
  · rw [if_neg hp, if_neg hp, if_neg hp, if_neg hp]
    have hpl : 0 < L.pd.length := List.length_pos_iff.2 hp
    have hall := all_any p.bl c.o p.bk p.bc vl vh vp L.lv L.pd w hLr.blk hLr.rl hLr.rp (by have := hL.few; omega)
    have hle := hL.fit
    have hlen2 := lvB_len2 (L.lv ++ L.pd)
    have hby := fun w1 (a : Option Addr) (n cc : Nat) (hPA : PA w1 a n cc (L.lv ++ L.pd)) => leavesBytes_any (L.lv ++ L.pd) a n cc w1 hPA hL.each (by have := hPA.len; omega)
    have hcm := fun w1 (hk1 : Kept w0 (Pair2 (TLo p b h c D L vl vh vp) X) w1) => tcommit_lv gX hk1 hB h99 (lvB (L.lv ++ L.pd)) (by unfold maxLen; omega)
    have hpl2 := fun w1 (hk1 : Kept w0 (Pair2 (TLo p b h c (pcD b h D L.C nLv (lvB (L.lv ++ L.pd))) { L with C := pcC b h D L.C nLv (lvB (L.lv ++ L.pd)) } vl vh vp) X) w1) (hPA : PA w1 a5 L.pd.length cc5 L.pd) =>
      tplace_any hE hk1 gX L.pd a5 L.pd.length cc5 hPA (fun q off e => by
        subst e
        have hv : vp.ownBlock = some q := by rw [hvp]; rfl
        exact ⟨fun e => txr_apart hLr.rp hLr.blk (by decide) (by rw [hv, e]), fun e => hLr.lp q e hv, fun e => hLr.hp q e hv⟩) (fun x hx => Nat.le_trans (hL.each x (List.mem_append_right _ hx)) (by omega)) (by have := hL.few; show L.lv.length + L.pd.length ≤ _; omega)
    have hrows2 := fun w1 (D1 : Dev) (C1 : CellM) (hk1 : Kept w0 (Pair2 (TLo p b h c D1 { L with C := C1 } vl vh vp) X) w1) => (show PA w1 a5 L.pd.length cc5 L.pd by
      obtain ⟨_, _, a, cc, e, hPA⟩ := tl_rows hk1
      rw [hvp] at e
      cases e
      exact hPA)
    have hblk2 := fun w1 (D1 : Dev) (L1 : LogM) (x y : Value) (hk1 : Kept w0 (Pair2 (TLo p b h c D1 L1 x y vp) X) w1) => (show w1.cell? ⟨p.bl, 5, none⟩ = some (.slice a5 L.pd.length cc5) ∧ w1.frozen? ⟨p.bl, 5, none⟩ = false from ⟨by rw [← hvp]; exact (tl_blk hk1).cell 5, (tl_blk hk1).free 5⟩)
    have hsz2 := fun w1 (L1 : LogM) (D1 : Dev) (x y z : Value) (hk1 : Kept w0 (Pair2 (TLo p b h c D1 L1 x y z) X) w1) => tsize_any hk1
    have hclr := fun w1 (D1 : Dev) (L1 : LogM) (x y : Value) (hk1 : Kept w0 (Pair2 (TLo p b h c D1 L1 x y vp) X) w1) => tl_clear hk1 gX
    obtain ⟨Z, hZ⟩ : ∃ Z, pcE b h D L.C nLv (lvB (L.lv ++ L.pd)) = Z := ⟨_, rfl⟩
    obtain ⟨D1, hD1⟩ : ∃ Z, pcD b h D L.C nLv (lvB (L.lv ++ L.pd)) = Z := ⟨_, rfl⟩
    obtain ⟨C1, hC1⟩ : ∃ Z, pcC b h D L.C nLv (lvB (L.lv ++ L.pd)) = Z := ⟨_, rfl⟩
    rw [hZ, hD1, hC1] at hcm
    rw [hD1, hC1] at hpl2
    rw [hZ, hD1, hC1]
    obtain ⟨M3, hM3⟩ : ∃ M3 : LogM, (if Z = 0 then { L with C := C1, lv := L.lv ++ L.pd, pd := [] } else { L with C := C1 }) = M3 := ⟨_, rfl⟩
    obtain ⟨N3, hN3⟩ : ∃ N3, (if Z = 0 then (L.lv ++ L.pd).length else 0) = N3 := ⟨_, rfl⟩
    rw [hM3, hN3]
    replace hM3 := Box.mk hM3
    replace hN3 := Box.mk hN3
    obtain ⟨T, hT⟩ : ∃ T, btx (lvB (L.lv ++ L.pd)) = T := ⟨_, rfl⟩
    rw [hT] at hcm hby
    obtain ⟨bl, hbl⟩ : ∃ x, p.bl = x := ⟨_, rfl⟩
    rw [hbl] at c5 hall hcm hpl2 hblk2 hsz2 hclr
    rw [hbl]
    obtain ⟨N, hN⟩ : ∃ x, L.pd.length = x := ⟨_, rfl⟩
    rw [hN] at c5 hpl2 hrows2 hblk2 hpl
    have hnz : ¬ N = 0 := by omega
    have hkB := Box.mk hk
    have hgX := Box.mk gX
    replace hall := Box.mk hall
    replace hby := Box.mk hby
    replace hcm := Box.mk hcm
    replace hpl2 := Box.mk hpl2
    replace hrows2 := Box.mk hrows2
    replace hblk2 := Box.mk hblk2
    replace hsz2 := Box.mk hsz2
    replace hclr := Box.mk hclr
    clear hk hP5 hLr hrow hvp hp hbl hL hB gX hE hle hlen2 hZ hD1 hC1 hT hN hpl
    go_enter Tryz.func12, Tryz.ntmps12
    go_wp2_with fail
    refine hall.out.mono ?_
    clear hall c5
    rintro e w1 ⟨v, rfl, hT1, hB1⟩
    obtain ⟨a1, n1, cc1, rfl, hP1⟩ : ∃ a n cc, v = .slice a n cc ∧ PA w1 a n cc (L.lv ++ L.pd) := (by
      obtain ⟨a1, cc1, e, hP⟩ := txr_pa (TxR.base hT1 (Nat.zero_le _))
      exact ⟨a1, _, cc1, e, hP⟩)
    have hF := hby.out w1 a1 n1 cc1 hP1
    have hk1 := Box.mk (tl_here hkB.out hgX.out hB1)
    clear hT1 hP1 hB1 hkB hby
    go_wp2_with fail
    refine hF.mono ?_
    clear hF
    rintro e w2 ⟨rfl, hb2⟩
    have hk2 := Box.mk (tl_here hk1.out hgX.out hb2)
    have hF := hcm.out w2 hk2.out
    clear hk1 hb2 hcm
    go_wp2_with fail
    refine hF.mono ?_
    clear hF hk2
    rintro e w3 ⟨rfl, hk3⟩
    by_cases hz : Z = 0
    · subst hz
      have hM4 := hM3.out
      have hN4 := hN3.out
      rw [if_pos rfl] at hM4 hN4
      replace hM4 := Box.mk hM4
      replace hN4 := Box.mk hN4
      clear hM3 hN3
      have hF := hpl2.out w3 hk3.out (hrows2.out w3 _ _ hk3.out)
      obtain ⟨c5, f5⟩ := hblk2.out w3 _ _ _ _ hk3.out
      clear f5 hpl2 hrows2
      go_wp2_with fail
      refine hF.mono ?_
      clear hF c5
      rintro e w4 ⟨rfl, hk4⟩
      obtain ⟨x, y, hk4⟩ := hk4.out
      obtain ⟨c5, f5⟩ := hblk2.out w4 _ _ _ _ hk4
      have hk5 := hclr.out w4 _ _ _ _ hk4
      obtain ⟨w5, hw5⟩ : ∃ w5, w4.setCell ⟨bl, 5, none⟩ (.slice none 0 0) = w5 := ⟨_, rfl⟩
      rw [hw5] at hk5
      have hF := hsz2.out w5 _ _ _ _ _ hk5
      replace hk5 := Box.mk (tlx_close hk5)
      clear hk4 hk3 hblk2 hclr hsz2
      go_wp2_with fail
      refine hF.mono ?_
      clear hF
      rintro e w6 ⟨rfl, rfl⟩
      go_wp2_with fail
      go_returns
      exact ⟨by rw [← hN4.out, List.length_append, Int.natCast_add]; rfl, by rw [← hM4.out]; exact hk5⟩
    · have hM4 := hM3.out
      have hN4 := hN3.out
      rw [if_neg hz] at hM4 hN4
      subst hN4
      replace hM4 := Box.mk hM4
      clear hM3 hN3
      have hzb : (Z == 0) = false := by simpa using hz
      replace hk3 := Box.mk (tlx_close hk3.out)
      go_wp2_with fail
      go_returns
      exact ⟨rfl, by rw [← hM4.out]; exact hk3⟩
end
end Go.Proofs.YthpfpkikmaiddaaGreatDoor.Tg
