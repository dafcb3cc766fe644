/- A log's contents on lists: what its calls leave where the power doesn't go. | The document's first example. | A log's contents on lists, wherever the power goes. -/
import Derived.Test.YthpfpkikmaiddaaGreatDoorGtl
import Derived.Test.YthpfpkikmaiddaaGreatDoorGck
set_option linter.all false
set_option linter.unusedVariables false
set_option linter.unusedSimpArgs false
namespace Go.Proofs.YthpfpkikmaiddaaGreatDoor.Tg
open Go Go.RowKit Go.Proofs.YthpfpkikmaiddaaGreatDoor.Pk Go.Proofs.YthpfpkikmaiddaaGreatDoor.Nt

/-- What stands under a log's three names. -/
def lgC (a n u : Option Bs) : Ct := (match a with | some t => [(nLv, t)] | none => []) ++ ((match n with | some t => [(nNo, t)] | none => []) ++ (match u with | some t => [(nUs, t)] | none => []))
section
variable (a n u : Option Bs) (t : Bs)
theorem lgC_lv : putC (lgC a n u) nLv t = lgC (some t) n u := by cases a <;> cases n <;> cases u <;> rfl
theorem lgC_no : putC (lgC a n u) nNo t = lgC a (some t) u := by cases a <;> cases n <;> cases u <;> rfl
theorem lgC_us : putC (lgC a n u) nUs t = lgC a n (some t) := by cases a <;> cases n <;> cases u <;> rfl
theorem lgC_glv : getC (lgC a n u) nLv = a := by cases a <;> cases n <;> cases u <;> rfl
theorem lgC_gno : getC (lgC a n u) nNo = n := by cases a <;> cases n <;> cases u <;> rfl
theorem lgC_gus : getC (lgC a n u) nUs = u := by cases a <;> cases n <;> cases u <;> rfl
theorem lgC_few : (lgC a n u).length ≤ 3 := by cases a <;> cases n <;> cases u <;> simp [lgC]
def opL (x : Option Bs) : Nat := match x with | some t => t.length + 10 | none => 0
theorem lgC_len : (bytesC (lgC a n u)).length ≤ 2 + opL a + opL n + opL u := by
  cases a <;> cases n <;> cases u <;> simp [lgC, bytesC, pairL, txL_length, opL, Pk.beN_length, nLv, nNo, nUs] <;> omega
theorem lgC_put (nm : Bs) (h1 : 1 ≤ nm.length) (h2 : nm.length ≤ 32) (ht : t.length ≤ 65535) : putE (lgC a n u) nm t = 0 := by
  have := lgC_few a n u
  unfold putE
  rw [if_neg (by omega), if_neg (by omega), if_neg (by omega)]
end
/-- A commit that goes through. -/
structure PcGo (b h : Nat) (D D' : Dev) (C C' : CellM) (ct : Ct) : Prop where
  now : C'.now = ct
  was : C'.was = ct
  num : C'.num = C.num + 1
  sound : Sound b h D' C'
  fall : D'.fall = 0
  len : D'.safe.length = D.safe.length
theorem pc_goes {b h : Nat} {D : Dev} {C : CellM} (n t : Bs) (hS : Sound b h D C) (hf : D.fall = 0) (hnum : C.num < 1000000) (hp : putE C.now n t = 0) (hl : (bytesC (putC C.now n t)).length ≤ 64 * (h - 1)) :
    pcE b h D C n t = 0 ∧ PcGo b h D (pcD b h D C n t) C (pcC b h D C n t) (putC C.now n t) := by
  have hM : putM C.now n t = putC C.now n t := by unfold putM; rw [if_pos hp]
  have hok : (putC C.now n t).ok := by rw [← hM]; exact hS.ok.now.put n t
  have hG := (hS.now hok).goes hf hnum hl
  have e1 : pcE b h D C n t = 0 := by unfold pcE; rw [if_pos hp, hM]; exact hG.e
  have e2 : pcD b h D C n t = commitD b h D { C with now := putC C.now n t } := by unfold pcD; rw [if_pos hp, hM]
  have e3 : pcC b h D C n t = commitC b h D { C with now := putC C.now n t } := by unfold pcC; rw [if_pos hp, hM, if_pos hG.e]
  refine ⟨e1, ?_⟩
  rw [e2, e3]
  exact ⟨by rw [hG.c], by rw [hG.c], by rw [hG.c], hG.sound, hG.fall, hG.len⟩
/-- A log at rest, its texts those of its three names. -/
structure LogS (b h : Nat) (c : Cfg) (D : Dev) (L : LogM) (a n u : Option Bs) : Prop where
  snd : Sound b h D L.C
  fall : D.fall = 0
  now : L.C.now = lgC a n u
  ok : L.ok c
theorem nt_short {c : Cfg} {L : LogM} (hc : c.ok) (hL : L.ok c) : (ntT L c).data.toList.length ≤ 3300 := by
  obtain ⟨_, h2, h3⟩ := gN_iff.1 (gN_of hc hL)
  have h4 := sgL_len (sgOf L c) fun x hx => ⟨(h3 x hx).1, (h3 x hx).2.2⟩
  have h5 : (ptT L c).size ≤ 1000 := ckT_le (gC_of hc hL)
  have h6 : (sgOf L c).length = 1 := rfl
  show ((ptT L c).data.toList ++ 10 :: sgL (sgOf L c)).length ≤ _
  rw [List.length_append, List.length_cons, Pk.data_len]
  omega
section
variable {b h : Nat} {c : Cfg} {D : Dev} {L : LogM} {a n u : Option Bs}
theorem LogS.add (k : LogS b h c D L a n u) (x : ByteArray) : LogS b h c D (addM L x) a n u := by
  have hC : (addM L x).C = L.C := by unfold addM; split <;> rfl
  exact ⟨by rw [hC]; exact k.snd, k.fall, by rw [hC]; exact k.now, addM_ok k.ok x⟩
/-- Sequence where the power doesn't go. -/
theorem LogS.seq (k : LogS b h c D L a n u) (hp : L.pd ≠ []) (hnum : L.C.num < 1000000) (hl : 2 + opL (some (lvB (L.lv ++ L.pd))) + opL n + opL u ≤ 64 * (h - 1)) :
    seqE b h D L = 0 ∧ seqN b h D L = (L.lv ++ L.pd).length ∧ (seqM b h D L).lv = L.lv ++ L.pd ∧ (seqM b h D L).pd = [] ∧ (seqM b h D L).u = L.u ∧ (seqM b h D L).C.num = L.C.num + 1 ∧
      LogS b h c (seqD b h D L) (seqM b h D L) (some (lvB (L.lv ++ L.pd))) n u := by
  have hE : putE L.C.now nLv (lvB (L.lv ++ L.pd)) = 0 := by rw [k.now]; exact lgC_put a n u _ nLv (by decide) (by decide) k.ok.fit
  have hlen : (bytesC (putC L.C.now nLv (lvB (L.lv ++ L.pd)))).length ≤ 64 * (h - 1) := by
    rw [k.now, lgC_lv]; exact Nat.le_trans (lgC_len _ _ _) hl
  obtain ⟨e1, g⟩ := pc_goes nLv (lvB (L.lv ++ L.pd)) k.snd k.fall hnum hE hlen
  have hok := seqM_ok (b := b) (h := h) (D := D) k.ok
  have hM : seqM b h D L = { L with C := pcC b h D L.C nLv (lvB (L.lv ++ L.pd)), lv := L.lv ++ L.pd, pd := [] } := by unfold seqM; rw [if_neg hp, if_pos e1]
  have hD : seqD b h D L = pcD b h D L.C nLv (lvB (L.lv ++ L.pd)) := by unfold seqD; rw [if_neg hp]
  refine ⟨by unfold seqE; rw [if_neg hp]; exact e1, by unfold seqN; rw [if_neg hp, if_pos e1], by rw [hM], by rw [hM], by rw [hM], by rw [hM]; exact g.num, ?_⟩
  refine ⟨?_, ?_, ?_, hok⟩
  · rw [hM, hD]; exact g.sound
  · rw [hD]; exact g.fall
  · rw [hM]
    show (pcC b h D L.C nLv (lvB (L.lv ++ L.pd))).now = _
    rw [g.now, k.now, lgC_lv]
/-- The note that Issue leaves is the checkpoint's. -/
theorem isB_nt (hc : c.ok) (hL : L.ok c) (a u : Option Bs) : isB (lgC a (some (ntT L c).data.toList) u) L.lv.length = true := by
  have h0 : noT (lgC a (some (ntT L c).data.toList) u) = ntT L c := by
    unfold noT ctT ctB
    rw [lgC_gno]
    rfl
  have h1 : rdT (ntT L c) = ptT L c := by
    unfold rdT
    have : (ntT L c).data.toList = byN (ptT L c, sgOf L c) := rfl
    rw [this, rdN_by (gN_of hc hL)]
  unfold isB
  rw [h0, h1]
  have h2 : pCk (ptT L c).data.toList = some (ckOf L c) := pCk_by (gC_of hc hL)
  rw [h2]
  simp [ckOf]
/-- Issue where there is no note of that size, and the power doesn't go. -/
theorem LogS.iss (k : LogS b h c D L a n u) (hc : c.ok) (hb : isB L.C.now L.lv.length = false) (hu : L.u < 2 ^ c.h) (hnum : L.C.num < 999999) (hl : 3400 + opL a + opL n ≤ 64 * (h - 1)) :
    issE b h D L c = 0 ∧ issT b h D L c = ntT L c ∧ (issM b h D L c).lv = L.lv ∧ (issM b h D L c).pd = L.pd ∧ (issM b h D L c).u = L.u + 1 ∧ (issM b h D L c).C.num = L.C.num + 2 ∧
      LogS b h c (issD b h D L c) (issM b h D L c) a (some (ntT L c).data.toList) (some (usB (L.u + 1))) := by
  have hul : (usB (L.u + 1)).length = 4 := Pk.beN_length _ _
  have hnt := nt_short hc k.ok
  have hE : putE L.C.now nUs (usB (L.u + 1)) = 0 := by rw [k.now]; exact lgC_put a n u _ nUs (by decide) (by decide) (by omega)
  have hlen : (bytesC (putC L.C.now nUs (usB (L.u + 1)))).length ≤ 64 * (h - 1) := by
    rw [k.now, lgC_us]; refine Nat.le_trans (lgC_len _ _ _) ?_
    simp only [opL]
    simp only [opL] at hl
    omega
  obtain ⟨e1, g1⟩ := pc_goes nUs (usB (L.u + 1)) k.snd k.fall (by omega) hE hlen
  have hnow1 : (usC b h D L).now = lgC a n (some (usB (L.u + 1))) := by show (pcC b h D L.C nUs (usB (L.u + 1))).now = _; rw [g1.now, k.now, lgC_us]
  have hE2 : putE (usC b h D L).now nNo (ntT L c).data.toList = 0 := by rw [hnow1]; exact lgC_put _ _ _ _ nNo (by decide) (by decide) (by omega)
  have hlen2 : (bytesC (putC (usC b h D L).now nNo (ntT L c).data.toList)).length ≤ 64 * (h - 1) := by
    rw [hnow1, lgC_no]; refine Nat.le_trans (lgC_len _ _ _) ?_
    simp only [opL]
    simp only [opL] at hl
    omega
  have hnum2 : (usC b h D L).num = L.C.num + 1 := g1.num
  obtain ⟨e2, g2⟩ := pc_goes (D := usD b h D L) (C := usC b h D L) nNo (ntT L c).data.toList g1.sound g1.fall (by omega) hE2 hlen2
  have hok := issM_ok (b := b) (h := h) (D := D) (c := c) k.ok
  have hu2 : ¬ L.u = 2 ^ c.h := by omega
  have hb2 : ¬ isB L.C.now L.lv.length = true := by simp [hb]
  have hu0 : ¬ usE b h D L ≠ 0 := fun e => e e1
  have hM : issM b h D L c = { L with C := noC b h D L c, u := L.u + 1 } := by unfold issM; rw [if_neg hb2, if_neg hu2, if_neg hu0]
  have hD : issD b h D L c = noD b h D L c := by unfold issD; rw [if_neg hb2, if_neg hu2, if_neg hu0]
  refine ⟨by unfold issE; rw [if_neg hb2, if_neg hu2, if_neg hu0]; exact e2, by unfold issT; rw [if_neg hb2, if_neg hu2, if_neg hu0, if_pos (show noE b h D L c = 0 from e2)], by rw [hM], by rw [hM], by rw [hM], ?_, ?_⟩
  · rw [hM]
    show (pcC b h (usD b h D L) (usC b h D L) nNo (ntT L c).data.toList).num = _
    rw [g2.num, hnum2]
  · refine ⟨?_, ?_, ?_, hok⟩
    · rw [hM, hD]; exact g2.sound
    · rw [hD]; exact g2.fall
    · rw [hM]
      show (pcC b h (usD b h D L) (usC b h D L) nNo (ntT L c).data.toList).now = _
      rw [g2.now, hnow1, lgC_no]
/-- Issue again. -/
theorem iss_again (hb : isB L.C.now L.lv.length = true) : issE b h D L c = 0 ∧ issT b h D L c = noT L.C.now ∧ issM b h D L c = L ∧ issD b h D L c = D := by
  refine ⟨?_, ?_, ?_, ?_⟩
  · unfold issE; rw [if_pos hb]
  · unfold issT; rw [if_pos hb]
  · unfold issM; rw [if_pos hb]
  · unfold issD; rw [if_pos hb]
theorem seq_bd {k : Nat} (hb : Bd k D L.C) (hh : h ≤ 300) : Bd (k + 1) (seqD b h D L) (seqM b h D L).C := by
  have h1 := pc_bd (b := b) hb hh nLv (lvB (L.lv ++ L.pd))
  unfold seqD seqM
  split
  · exact hb.up (by omega)
  · split <;> exact h1
theorem iss_bd {k : Nat} (hb : Bd k D L.C) (hh : h ≤ 300) : Bd (k + 2) (issD b h D L c) (issM b h D L c).C := by
  have h1 : Bd (k + 1) (usD b h D L) (usC b h D L) := pc_bd hb hh nUs (usB (L.u + 1))
  have h2 : Bd (k + 2) (noD b h D L c) (noC b h D L c) := pc_bd h1 hh nNo (ntT L c).data.toList
  unfold issD issM
  split
  · exact hb.up (by omega)
  · split
    · exact hb.up (by omega)
    · split
      · exact h1.up (by omega)
      · exact h2
theorem rdT_nil : rdT ⟨#[]⟩ = ⟨#[]⟩ := by
  cases hr : rdN (⟨#[]⟩ : ByteArray).data.toList with
  | none => exact (rd_none hr).1
  | some m =>
    have h2 := (rdN_some hr).2
    unfold byN at h2
    have := congrArg List.length h2
    simp at this
theorem isB_none (a u : Option Bs) (m : Nat) : isB (lgC a none u) m = false := by
  have h0 : noT (lgC a none u) = ⟨#[]⟩ := by
    unfold noT ctT ctB
    rw [lgC_gno]
    rfl
  unfold isB
  rw [h0, rdT_nil]
  cases hp : pCk (⟨#[]⟩ : ByteArray).data.toList with
  | none => rfl
  | some k =>
    have h2 := (pCk_some hp).2
    unfold ckL at h2
    rw [jn_cons] at h2
    have := congrArg List.length h2
    simp at this
theorem nt_ne (L : LogM) (c : Cfg) : (ntT L c).toList.isEmpty = false := by
  rw [List.isEmpty_eq_false_iff, ByteArray.toList_eq]
  show (ptT L c).data.toList ++ 10 :: sgL (sgOf L c) ≠ []
  simp
end
end Go.Proofs.YthpfpkikmaiddaaGreatDoor.Tg

namespace Go.Proofs.YthpfpkikmaiddaaGreatDoor.Tg
open Go Go.RowKit Go.Proofs.YthpfpkikmaiddaaGreatDoor.Pk Go.Proofs.YthpfpkikmaiddaaGreatDoor.Nt

/-- Nothing of its own. -/
def NoO : Pk.Obj := fun w F => ∀ k, F k → k < w.heap.size
theorem NoO.good : Pk.Good NoO where
  lt := fun h => h
  chg := fun h hc _ => fun k hk => Nat.lt_of_lt_of_le (h k hk) hc.size
  wide := fun _ _ hl => hl
theorem kept_no {w0 w : World} {A : Pk.Obj} (g : Pk.Good A) (h : Kept w0 A w) : Kept w0 (Pair2 A NoO) w :=
  kept_cv h fun _ F k => ⟨F, fun _ => False, k, fun _ e => e.elim, fun _ _ e => e, fun _ => id, fun _ e => e.elim, g.lt k⟩
def sA : ByteArray := ⟨#[97]⟩
def sB : ByteArray := ⟨#[98]⟩
def cOS : Cfg := ⟨⟨#[111]⟩, ⟨#[115]⟩, 1⟩
theorem cOS_ok : cOS.ok := ⟨by decide +kernel, by decide, by decide⟩
def eL0 : LogM := ⟨Pk.M0, 0, [], []⟩
def eL2 : LogM := ⟨Pk.M0, 0, [], [sA, sB]⟩
def eL1 : LogM := ⟨Pk.M0, 0, [], [sA]⟩
theorem e_add1 : addE eL0 sA = 0 ∧ addM eL0 sA = eL1 := by
  have h : addE eL0 sA = 0 := by decide +kernel
  exact ⟨h, by unfold addM; rw [if_pos h]; rfl⟩
theorem e_add2 : addE eL1 sB = 0 ∧ addM eL1 sB = eL2 := by
  have h : addE eL1 sB = 0 := by decide +kernel
  exact ⟨h, by unfold addM; rw [if_pos h]; rfl⟩
theorem lvB_nil' : spL [] = some [] := by decide +kernel
theorem new_logS (c : Cfg) (n b h : Nat) (hn : n ≤ 4096) (h2 : 2 ≤ h) (hf : b + 2 * h ≤ n) : LogS b h c (Dev.new n) ⟨Pk.M0, 0, [], []⟩ none none none :=
  ⟨Sound.new n b h hn h2 hf, rfl, rfl, ⟨fun x hx => by simp at hx, by simp, by simp [lvB], Nat.zero_le _⟩⟩
theorem new_bd (n : Nat) : Bd 0 (Dev.new n) Pk.M0 := ⟨Nat.le_refl _, by simp [Dev.new], Nat.le_refl _, by simp [Dev.new]⟩
/-- A log on a new device. -/
theorem topen_new {w0 w : World} {bd : Nat} {X : Pk.Obj} (hE : Env w0) (gX : Pk.Good X) (c : Cfg) (hc : c.ok) (n b h : Nat) (hn : n ≤ 4096) (h2 : 2 ≤ h) (hf : b + 2 * h ≤ n) (hk : Kept w0 (Pair2 (DevO bd (Dev.new n)) X) w) :
    Calls Tryz.prog 9 #[.pointer (some ⟨bd, 0, none⟩), .int .i64 (b : Int), .int .i64 (h : Int), cfgV c.o c.s (c.h : Int)] w fun e w' => ∃ bl bc bk, e = .returned (.tuple #[.pointer (some ⟨bl, 0, none⟩), .int .i64 0]) ∧ Box (Kept w0 (Pair2 (TLx ⟨bd, bl, bc, bk⟩ b h c (Dev.new n) ⟨Pk.M0, 0, [], []⟩) X) w') := by
  have s0 := Sound.new n b h hn h2 hf
  have hu := us_none (c := Pk.M0.now) rfl
  have := topen_any (b := b) (h := h) (c := c) (M := Pk.M0) (ls := []) hE gX hk hc rfl h2 (by show b + 2 * h ≤ (List.replicate n zeroS).length; rw [List.length_replicate]; exact hf) s0.opens rfl rfl s0.ok lvB_nil' hu.2
  rw [hu.1] at this
  rw [show skipN 0 0 c.h = 0 by unfold skipN; simp] at this
  exact this
theorem lfa1 : lfaV [sA, sB] (cutT ⟨#[108, 101, 97, 102, 47, 49]⟩) = .tuple #[.string sB, .int .i64 0] := by
  have h1 : cutT ⟨#[108, 101, 97, 102, 47, 49]⟩ = ⟨#[49]⟩ := by decide +kernel
  have h2 : Lib.atoiAll (⟨#[49]⟩ : ByteArray).data.toList = .ok 1 := by
    have hd : Lib.decDigits 1 = [49] := by decide +kernel
    have := atoi_dec 1 (by decide)
    rwa [hd] at this
  have h3 : txN 1 = ⟨#[49]⟩ := by decide +kernel
  unfold lfaV
  rw [h1, h2]
  simp only [h3, if_true]
  rfl
set_option maxHeartbeats 6400000 in
set_option maxRecDepth 100000 in
theorem logs_any (w : World) (hE : Env w) : Calls Tryz.prog 6 #[] w fun e w' => e = .returned (.bool true) ∧ Box (Below w.heap.size w w') := by
  have hN := Box.mk (newdev_kept (Below.refl w.heap.size w) 200 (by decide) (by decide))
  have hO := Box.mk (fun bd w1 (hk : Kept w (Pair2 (DevO bd (Dev.new 200)) NoO) w1) => topen_new hE NoO.good cOS cOS_ok 200 0 90 (by decide) (by decide) (by decide) hk)
  replace hE := Box.mk hE
  go_enter Tryz.func6, Tryz.ntmps6
  go_wp2_with fail
  refine hN.out.mono ?_
  rintro e w1 ⟨bd, rfl, hk1⟩
  have hG := hO.out bd w1 (kept_no (DevO.good _ _) hk1.out)
  unfold cfgV cOS at hG
  clear hN hO hk1
  go_wp2_with fail
  refine hG.mono ?_
  clear hG
  rintro e w2 ⟨bl, bc, bk, rfl, hk2⟩
  have k0 : LogS 0 90 cOS (Dev.new 200) eL0 none none none := new_logS cOS 200 0 90 (by decide) (by decide) (by decide)
  obtain ⟨vl, vh, vp, hk2⟩ := tlx_open hk2.out
  have hG := tadd_any (p := ⟨bd, bl, bc, bk⟩) hk2 NoO.good k0.ok sA (by decide)
  rw [show (⟨Pk.M0, 0, [], []⟩ : LogM) = eL0 from rfl, e_add1.1, e_add1.2] at hG
  unfold sA at hG
  replace k0 := Box.mk k0
  clear hk2
  go_wp2_with fail
  refine hG.mono ?_
  clear hG
  rintro e w3 ⟨rfl, hk3⟩
  obtain ⟨vl, vh, vp, hk3⟩ := tlx_open hk3.out
  have k1 := k0.out.add sA
  rw [e_add1.2] at k1
  have hG := tadd_any (p := ⟨bd, bl, bc, bk⟩) hk3 NoO.good k1.ok sB (by decide)
  rw [e_add2.1, e_add2.2] at hG
  unfold sB at hG
  have k2 := k1.add sB
  rw [e_add2.2] at k2
  replace k2 := Box.mk k2
  clear hk3 k0 k1
  go_wp2_with fail
  refine hG.mono ?_
  clear hG
  rintro e w4 ⟨rfl, hk4⟩
  obtain ⟨vl, vh, vp, hk4⟩ := tlx_open hk4.out
  have hG := tpend_any (p := ⟨bd, bl, bc, bk⟩) hk4
  rw [show ((eL2.pd.length : Nat) : Int) = 2 from rfl] at hG
  have hS := Box.mk (tsequence_any (p := ⟨bd, bl, bc, bk⟩) hE.out hk4 NoO.good k2.out.ok (new_bd 200) (by decide))
  clear hk4
  go_wp2_with fail
  refine hG.mono ?_
  clear hG
  rintro e w5 ⟨rfl, rfl⟩
  have hG := hS.out
  obtain ⟨q1, q2, q3, q4, q5, q6, k3⟩ := k2.out.seq (by decide) (by decide) (by decide +kernel)
  have b3 := seq_bd (b := 0) (h := 90) (D := Dev.new 200) (L := eL2) (new_bd 200) (by decide)
  rw [q1, q2, show (((eL2.lv ++ eL2.pd).length : Nat) : Int) = 2 from rfl] at hG
  obtain ⟨L3, hL3⟩ : ∃ x, seqM 0 90 (Dev.new 200) eL2 = x := ⟨_, rfl⟩
  obtain ⟨D3, hD3⟩ : ∃ x, seqD 0 90 (Dev.new 200) eL2 = x := ⟨_, rfl⟩
  rw [hL3, hD3] at hG b3 k3
  rw [hL3] at q3 q4 q5 q6
  have hb3 : isB L3.C.now L3.lv.length = false := by rw [k3.now]; exact isB_none _ _ _
  obtain ⟨r1, r2, r3, r4, r5, r6, k4⟩ := k3.iss cOS_ok hb3 (by rw [q5]; decide) (by rw [q6]; decide) (by decide +kernel)
  have b4 := iss_bd (b := 0) (h := 90) (c := cOS) (D := D3) (L := L3) b3 (by decide)
  have hb4 : isB (issM 0 90 D3 L3 cOS).C.now (issM 0 90 D3 L3 cOS).lv.length = true := by rw [k4.now, r3]; exact isB_nt cOS_ok k3.ok _ _
  have hn4 : noT (issM 0 90 D3 L3 cOS).C.now = ntT L3 cOS := by
    rw [k4.now]; unfold noT ctT ctB; rw [lgC_gno]; rfl
  have hT := nt_ne L3 cOS
  have hI := Box.mk (fun w1 vl vh vp (hk : Kept w (Pair2 (TLo ⟨bd, bl, bc, bk⟩ 0 90 cOS D3 L3 vl vh vp) NoO) w1) => tissue_any hE.out hk NoO.good cOS_ok k3.ok b3 (by decide) (by decide))
  rw [r1, r2] at hI
  rw [q3] at r3
  rw [q5] at r5
  obtain ⟨L4, hL4⟩ : ∃ x, issM 0 90 D3 L3 cOS = x := ⟨_, rfl⟩
  obtain ⟨D4, hD4⟩ : ∃ x, issD 0 90 D3 L3 cOS = x := ⟨_, rfl⟩
  obtain ⟨T, hTe⟩ : ∃ x, ntT L3 cOS = x := ⟨_, rfl⟩
  rw [hL4, hD4] at hI b4 k4
  rw [hL4] at hb4 hn4 r3 r5
  rw [hTe] at hI hn4 hT
  obtain ⟨s1, s2, s3, s4⟩ := iss_again (b := 0) (h := 90) (c := cOS) (D := D4) (L := L4) hb4
  have hI2 := Box.mk (fun w1 vl vh vp (hk : Kept w (Pair2 (TLo ⟨bd, bl, bc, bk⟩ 0 90 cOS D4 L4 vl vh vp) NoO) w1) => tissue_any hE.out hk NoO.good cOS_ok k4.ok b4 (by decide) (by decide))
  rw [s1, s2, s3, s4, hn4] at hI2
  have hFi := Box.mk (fun w1 vl vh vp (hk : Kept w (Pair2 (TLo ⟨bd, bl, bc, bk⟩ 0 90 cOS D4 L4 vl vh vp) NoO) w1) => tfile_leaf hE.out hk NoO.good ⟨#[108, 101, 97, 102, 47, 49]⟩ (by decide) (by decide) (by decide +kernel))
  rw [r3, show eL2.lv ++ eL2.pd = [sA, sB] from rfl, lfa1] at hFi
  unfold sB at hFi
  have hLe := Box.mk (fun w1 vl vh vp (hk : Kept w (Pair2 (TLo ⟨bd, bl, bc, bk⟩ 0 90 cOS D4 L4 vl vh vp) NoO) w1) => tleft_any hk NoO.good (by rw [r5]; decide))
  rw [r5, show (((2 ^ cOS.h - (eL2.u + 1) : Nat)) : Int) = 1 from rfl] at hLe
  clear hS k2 q1 q2 q3 q4 q5 q6 r1 r2 r3 r4 r5 r6 hL3 hD3 b3 k3 hb3 k4 b4 hb4 hn4 hL4 hD4 hTe s1 s2 s3 s4
  go_wp2_with fail
  refine hG.mono ?_
  clear hG
  rintro e w6 ⟨rfl, hk6⟩
  obtain ⟨vl, vh, vp, hk6⟩ := tlx_open hk6.out
  have hG := hI.out _ _ _ _ hk6
  clear hI hk6
  go_wp2_with fail
  refine hG.mono ?_
  clear hG
  rintro e w7 ⟨rfl, hk7⟩
  obtain ⟨vl, vh, vp, hk7⟩ := tlx_open hk7.out
  have hG := hI2.out _ _ _ _ hk7
  clear hI2 hk7
  go_wp2_with fail
  refine hG.mono ?_
  clear hG
  rintro e w8 ⟨rfl, hk8⟩
  obtain ⟨vl, vh, vp, hk8⟩ := tlx_open hk8.out
  have hG := hFi.out _ _ _ _ hk8
  clear hFi hk8
  go_wp2_with fail
  refine hG.mono ?_
  clear hG
  rintro e w9 ⟨rfl, hk9⟩
  have hG := hLe.out _ _ _ _ hk9.out
  clear hLe hk9
  go_wp2_with fail
  refine hG.mono ?_
  clear hG
  rintro e w10 ⟨rfl, hk10⟩
  have hBf := Box.mk hk10.out.k
  clear hk10
  go_wp2_with fail
  go_returns
  exact ⟨rfl, hBf⟩
end Go.Proofs.YthpfpkikmaiddaaGreatDoor.Tg

namespace Go.Proofs.YthpfpkikmaiddaaGreatDoor.Tg
open Go Go.RowKit Go.Proofs.YthpfpkikmaiddaaGreatDoor.Pk Go.Proofs.YthpfpkikmaiddaaGreatDoor.Nt

theorem lvB_nil0 : spL [] = some [] := by decide +kernel
/-- A name's commit went through. -/
structure PcYes (b h : Nat) (D D' : Dev) (C C' : CellM) (ct : Ct) : Prop where
  now : C'.now = ct
  was : C'.was = ct
  num : C'.num = C.num + 1
  sound : Sound b h D' C'
  fall : D'.fall ≤ D.fall
  len : D'.safe.length = D.safe.length
/-- The power has gone in it. -/
structure PcNo (b h : Nat) (D D' : Dev) (C C' : CellM) (ct : Ct) : Prop where
  now : C'.now = C.was
  was : C'.was = C.was
  coff : C'.off = true
  off : D'.off = true
  after : After D D' b h C.num C.was ct C.last
theorem pc_any {b h : Nat} {D : Dev} {C : CellM} (n t : Bs) (hS : Sound b h D C) (hnum : C.num < 1000000) (hp : putE C.now n t = 0) (hl : (bytesC (putC C.now n t)).length ≤ 64 * (h - 1)) :
    (pcE b h D C n t = 0 ∧ PcYes b h D (pcD b h D C n t) C (pcC b h D C n t) (putC C.now n t)) ∨ (pcE b h D C n t = 7 ∧ PcNo b h D (pcD b h D C n t) C (pcC b h D C n t) (putC C.now n t)) := by
  have hM : putM C.now n t = putC C.now n t := by unfold putM; rw [if_pos hp]
  have hok : (putC C.now n t).ok := by rw [← hM]; exact hS.ok.now.put n t
  have hS2 := hS.now hok
  have hcok := commitC_ok (D := D) hS2.ok hnum
  have hnl : ¬ 64 * (h - 1) < (bytesC (putC C.now n t)).length := by omega
  have hco : C.off = false := hS.off
  unfold pcE pcD pcC
  rw [if_pos hp, if_pos hp, if_pos hp, hM]
  unfold commitE commitD commitC
  unfold commitC at hcok
  simp only [hco, if_neg hnl, Bool.false_eq_true, if_false] at hcok ⊢
  rcases commit_cases hS.calm hS.region hok hnum hl with ⟨h1, h2⟩ | ⟨h1, h3, h2⟩
  · left
    rw [if_pos h1] at hcok
    rw [if_pos h1, if_pos h1]
    exact ⟨h1, rfl, rfl, rfl, ⟨h2.calm, h2.region, hcok, rfl⟩, h2.fall, h2.len⟩
  · right
    have hne : ¬ (commitM D (toC b h C.last) (hdr (C.num + 1) (bytesC (putC C.now n t)).length) (pieces (putC C.now n t))).1 = 0 := by rw [h1]; decide
    rw [if_neg hne, if_neg hne]
    exact ⟨h1, rfl, rfl, rfl, h3, h2⟩
/-- A log at rest, its texts those of its three names, whatever fall is set. -/
structure LogR (b h : Nat) (c : Cfg) (D : Dev) (L : LogM) (a n u : Option Bs) : Prop where
  snd : Sound b h D L.C
  now : L.C.now = lgC a n u
  was : L.C.was = lgC a n u
  ok : L.ok c
/-- A log whose power is gone: whatever is kept, one of these contents stands in the region. -/
structure LogO (b h : Nat) (D : Dev) (L : LogM) (P : Ct → Prop) (N : Nat) : Prop where
  off : D.off = true
  coff : L.C.off = true
  aft : ∃ D0 num ct ct' last, After D0 D b h num ct ct' last ∧ P ct ∧ P ct' ∧ num ≤ N
section
variable {b h : Nat} {c : Cfg} {D : Dev} {L : LogM} {a n u : Option Bs}
/-- Sequence, wherever the power goes. -/
theorem LogR.seq (k : LogR b h c D L a n u) (hp : L.pd ≠ []) (hnum : L.C.num < 999999) (hl : 2 + opL (some (lvB (L.lv ++ L.pd))) + opL n + opL u ≤ 64 * (h - 1)) :
    (seqE b h D L = 0 ∧ seqN b h D L = (L.lv ++ L.pd).length ∧ (seqM b h D L).lv = L.lv ++ L.pd ∧ (seqM b h D L).pd = [] ∧ (seqM b h D L).u = L.u ∧ (seqM b h D L).C.num = L.C.num + 1 ∧
      LogR b h c (seqD b h D L) (seqM b h D L) (some (lvB (L.lv ++ L.pd))) n u ∧ (seqD b h D L).fall ≤ D.fall ∧ (seqD b h D L).safe.length = D.safe.length) ∨
    (seqE b h D L = 7 ∧ seqN b h D L = 0 ∧ (seqM b h D L).ok c ∧ LogO b h (seqD b h D L) (seqM b h D L) (fun ct => ct = lgC a n u ∨ ct = lgC (some (lvB (L.lv ++ L.pd))) n u) L.C.num ∧ (seqD b h D L).safe.length = D.safe.length) := by
  have hE : putE L.C.now nLv (lvB (L.lv ++ L.pd)) = 0 := by rw [k.now]; exact lgC_put a n u _ nLv (by decide) (by decide) k.ok.fit
  have hlen : (bytesC (putC L.C.now nLv (lvB (L.lv ++ L.pd)))).length ≤ 64 * (h - 1) := by
    rw [k.now, lgC_lv]; exact Nat.le_trans (lgC_len _ _ _) hl
  have hok := seqM_ok (b := b) (h := h) (D := D) k.ok
  have hD : seqD b h D L = pcD b h D L.C nLv (lvB (L.lv ++ L.pd)) := by unfold seqD; rw [if_neg hp]
  rcases pc_any nLv (lvB (L.lv ++ L.pd)) k.snd (by omega) hE hlen with ⟨e1, g⟩ | ⟨e1, g⟩
  · left
    have hM : seqM b h D L = { L with C := pcC b h D L.C nLv (lvB (L.lv ++ L.pd)), lv := L.lv ++ L.pd, pd := [] } := by unfold seqM; rw [if_neg hp, if_pos e1]
    refine ⟨by unfold seqE; rw [if_neg hp]; exact e1, by unfold seqN; rw [if_neg hp, if_pos e1], by rw [hM], by rw [hM], by rw [hM], by rw [hM]; exact g.num, ⟨?_, ?_, ?_, hok⟩, by rw [hD]; exact g.fall, by rw [hD]; exact g.len⟩
    · rw [hM, hD]; exact g.sound
    · rw [hM]
      show (pcC b h D L.C nLv (lvB (L.lv ++ L.pd))).now = _
      rw [g.now, k.now, lgC_lv]
    · rw [hM]
      show (pcC b h D L.C nLv (lvB (L.lv ++ L.pd))).was = _
      rw [g.was, k.now, lgC_lv]
  · right
    have e0 : ¬ pcE b h D L.C nLv (lvB (L.lv ++ L.pd)) = 0 := by rw [e1]; decide
    have hM : seqM b h D L = { L with C := pcC b h D L.C nLv (lvB (L.lv ++ L.pd)) } := by unfold seqM; rw [if_neg hp, if_neg e0]
    refine ⟨by unfold seqE; rw [if_neg hp]; exact e1, by unfold seqN; rw [if_neg hp, if_neg e0], hok, ⟨by rw [hD]; exact g.off, by rw [hM]; exact g.coff, D, L.C.num, L.C.was, _, L.C.last, by rw [hD]; exact g.after, .inl k.was, .inr (by rw [k.now, lgC_lv]), by omega⟩, by rw [hD]; exact g.after.len⟩
/-- Issue, wherever the power goes: no more to do, no number, the note, or the power has gone in the first commit or in the second. -/
inductive IssR (b h : Nat) (c : Cfg) (D : Dev) (L : LogM) (a n u : Option Bs) : Prop where
  | same (hb : isB L.C.now L.lv.length = true) (e : issE b h D L c = 0) (t : issT b h D L c = noT L.C.now) (m : issM b h D L c = L) (d : issD b h D L c = D)
  | spent (hb : isB L.C.now L.lv.length = false) (e : issE b h D L c = 8) (t : issT b h D L c = ByteArray.empty) (m : issM b h D L c = L) (d : issD b h D L c = D)
  | new (hb : isB L.C.now L.lv.length = false) (hu : L.u < 2 ^ c.h) (e : issE b h D L c = 0) (t : issT b h D L c = ntT L c) (lv : (issM b h D L c).lv = L.lv) (pd : (issM b h D L c).pd = L.pd) (us : (issM b h D L c).u = L.u + 1) (num : (issM b h D L c).C.num = L.C.num + 2)
      (r : LogR b h c (issD b h D L c) (issM b h D L c) a (some (ntT L c).data.toList) (some (usB (L.u + 1)))) (fall : (issD b h D L c).fall ≤ D.fall) (len : (issD b h D L c).safe.length = D.safe.length)
  | fell1 (hu : L.u < 2 ^ c.h) (e : issE b h D L c = 7) (t : issT b h D L c = ByteArray.empty) (o : LogO b h (issD b h D L c) (issM b h D L c) (fun ct => ct = lgC a n u ∨ ct = lgC a n (some (usB (L.u + 1)))) L.C.num) (len : (issD b h D L c).safe.length = D.safe.length)
  | fell2 (hb : isB L.C.now L.lv.length = false) (hu : L.u < 2 ^ c.h) (e : issE b h D L c = 7) (t : issT b h D L c = ByteArray.empty) (o : LogO b h (issD b h D L c) (issM b h D L c) (fun ct => ct = lgC a n (some (usB (L.u + 1))) ∨ ct = lgC a (some (ntT L c).data.toList) (some (usB (L.u + 1)))) (L.C.num + 1)) (len : (issD b h D L c).safe.length = D.safe.length)
theorem LogR.iss (k : LogR b h c D L a n u) (hc : c.ok) (hnum : L.C.num < 999998) (hl : 3400 + opL a + opL n ≤ 64 * (h - 1)) : IssR b h c D L a n u := by
  cases hb : isB L.C.now L.lv.length with
  | true =>
    obtain ⟨s1, s2, s3, s4⟩ := iss_again (b := b) (h := h) (c := c) (D := D) hb
    exact .same hb s1 s2 s3 s4
  | false =>
    have hb2 : ¬ isB L.C.now L.lv.length = true := by simp [hb]
    by_cases hu2 : L.u = 2 ^ c.h
    · exact .spent hb (by unfold issE; rw [if_neg hb2, if_pos hu2]) (by unfold issT; rw [if_neg hb2, if_pos hu2]) (by unfold issM; rw [if_neg hb2, if_pos hu2]) (by unfold issD; rw [if_neg hb2, if_pos hu2])
    · have hu : L.u < 2 ^ c.h := by have := k.ok.u; omega
      have hul : (usB (L.u + 1)).length = 4 := Pk.beN_length _ _
      have hnt := nt_short hc k.ok
      have hE : putE L.C.now nUs (usB (L.u + 1)) = 0 := by rw [k.now]; exact lgC_put a n u _ nUs (by decide) (by decide) (by omega)
      have hlen : (bytesC (putC L.C.now nUs (usB (L.u + 1)))).length ≤ 64 * (h - 1) := by
        rw [k.now, lgC_us]; refine Nat.le_trans (lgC_len _ _ _) ?_
        simp only [opL]
        simp only [opL] at hl
        omega
      rcases pc_any (D := D) (C := L.C) nUs (usB (L.u + 1)) k.snd (by omega) hE hlen with ⟨e1, g1⟩ | ⟨e1, g1⟩
      · have hu0 : ¬ usE b h D L ≠ 0 := fun e => e e1
        have hnow1 : (usC b h D L).now = lgC a n (some (usB (L.u + 1))) := by show (pcC b h D L.C nUs (usB (L.u + 1))).now = _; rw [g1.now, k.now, lgC_us]
        have hwas1 : (usC b h D L).was = lgC a n (some (usB (L.u + 1))) := by show (pcC b h D L.C nUs (usB (L.u + 1))).was = _; rw [g1.was, k.now, lgC_us]
        have hE2 : putE (usC b h D L).now nNo (ntT L c).data.toList = 0 := by rw [hnow1]; exact lgC_put _ _ _ _ nNo (by decide) (by decide) (by omega)
        have hlen2 : (bytesC (putC (usC b h D L).now nNo (ntT L c).data.toList)).length ≤ 64 * (h - 1) := by
          rw [hnow1, lgC_no]; refine Nat.le_trans (lgC_len _ _ _) ?_
          simp only [opL]
          simp only [opL] at hl
          omega
        have hnum2 : (usC b h D L).num = L.C.num + 1 := g1.num
        have hlen0 : (usD b h D L).safe.length = D.safe.length := g1.len
        have hfal0 : (usD b h D L).fall ≤ D.fall := g1.fall
        have hok := issM_ok (b := b) (h := h) (D := D) (c := c) k.ok
        have hM : issM b h D L c = { L with C := noC b h D L c, u := L.u + 1 } := by unfold issM; rw [if_neg hb2, if_neg hu2, if_neg hu0]
        have hD : issD b h D L c = noD b h D L c := by unfold issD; rw [if_neg hb2, if_neg hu2, if_neg hu0]
        rcases pc_any (D := usD b h D L) (C := usC b h D L) nNo (ntT L c).data.toList g1.sound (by omega) hE2 hlen2 with ⟨e2, g2⟩ | ⟨e2, g2⟩
        · refine .new hb hu (by unfold issE; rw [if_neg hb2, if_neg hu2, if_neg hu0]; exact e2) (by unfold issT; rw [if_neg hb2, if_neg hu2, if_neg hu0, if_pos (show noE b h D L c = 0 from e2)]) (by rw [hM]) (by rw [hM]) (by rw [hM]) ?_ ⟨?_, ?_, ?_, hok⟩ ?_ ?_
          · rw [hM]
            show (pcC b h (usD b h D L) (usC b h D L) nNo (ntT L c).data.toList).num = _
            rw [g2.num, hnum2]
          · rw [hM, hD]; exact g2.sound
          · rw [hM]
            show (pcC b h (usD b h D L) (usC b h D L) nNo (ntT L c).data.toList).now = _
            rw [g2.now, hnow1, lgC_no]
          · rw [hM]
            show (pcC b h (usD b h D L) (usC b h D L) nNo (ntT L c).data.toList).was = _
            rw [g2.was, hnow1, lgC_no]
          · rw [hD]; exact Nat.le_trans g2.fall hfal0
          · rw [hD]; exact g2.len.trans hlen0
        · have e20 : ¬ noE b h D L c = 0 := by show ¬ pcE b h (usD b h D L) (usC b h D L) nNo (ntT L c).data.toList = 0; rw [e2]; decide
          refine .fell2 hb hu (by unfold issE; rw [if_neg hb2, if_neg hu2, if_neg hu0]; exact e2) (by unfold issT; rw [if_neg hb2, if_neg hu2, if_neg hu0, if_neg e20]) ⟨by rw [hD]; exact g2.off, by rw [hM]; exact g2.coff, usD b h D L, (usC b h D L).num, (usC b h D L).was, _, (usC b h D L).last, by rw [hD]; exact g2.after, .inl hwas1, .inr (by rw [hnow1, lgC_no]), by omega⟩ (by rw [hD]; exact g2.after.len.trans hlen0)
      · have hu0 : usE b h D L ≠ 0 := by show pcE b h D L.C nUs (usB (L.u + 1)) ≠ 0; rw [e1]; decide
        have hM : issM b h D L c = { L with C := usC b h D L } := by unfold issM; rw [if_neg hb2, if_neg hu2, if_pos hu0]
        have hD : issD b h D L c = usD b h D L := by unfold issD; rw [if_neg hb2, if_neg hu2, if_pos hu0]
        refine .fell1 hu (by unfold issE; rw [if_neg hb2, if_neg hu2, if_pos hu0]; exact e1) (by unfold issT; rw [if_neg hb2, if_neg hu2, if_pos hu0]) ⟨by rw [hD]; exact g1.off, by rw [hM]; exact g1.coff, D, L.C.num, L.C.was, _, L.C.last, by rw [hD]; exact g1.after, .inl k.was, .inr (by rw [k.now, lgC_us]), by omega⟩ (by rw [hD]; exact g1.after.len)
end
theorem lgC_ok (a n u : Option Bs) (ha : opL a ≤ 65545) (hn : opL n ≤ 65545) (hu : opL u ≤ 65545) : (lgC a n u).ok := by
  have h0 : (lgC none none none).ok := Ct.ok_nil
  have h1 : (lgC a none none).ok := by
    cases a with
    | none => exact h0
    | some t =>
      have ht : t.length ≤ 65535 := by simp only [opL] at ha; omega
      have := h0.put nLv t
      unfold putM at this
      rwa [if_pos (lgC_put none none none t nLv (by decide) (by decide) ht), lgC_lv] at this
  have h2 : (lgC a n none).ok := by
    cases n with
    | none => exact h1
    | some t =>
      have ht : t.length ≤ 65535 := by simp only [opL] at hn; omega
      have := h1.put nNo t
      unfold putM at this
      rwa [if_pos (lgC_put a none none t nNo (by decide) (by decide) ht), lgC_no] at this
  cases u with
  | none => exact h2
  | some t =>
    have ht : t.length ≤ 65535 := by simp only [opL] at hu; omega
    have := h2.put nUs t
    unfold putM at this
    rwa [if_pos (lgC_put a n none t nUs (by decide) (by decide) ht), lgC_us] at this
/-- What a log's texts say. -/
structure CtSays (a u : Option Bs) (ls : List ByteArray) (k : Nat) : Prop where
  lv : (a = none ∧ ls = []) ∨ a = some (lvB ls)
  each : ∀ x ∈ ls, x.size ≤ 1024
  few : ls.length ≤ 1024
  fit : (lvB ls).length ≤ 65535
  us : (u = none ∧ k = 0) ∨ u = some (usB k)
  low : k ≤ 16
theorem CtSays.read {a n u : Option Bs} {ls : List ByteArray} {k : Nat} (s : CtSays a u ls k) : spL (ctB (lgC a n u) nLv) = some ls ∧ usI (lgC a n u) = (k : Int) ∧ usK (lgC a n u) = true := by
  refine ⟨?_, ?_⟩
  · unfold ctB
    rw [lgC_glv]
    rcases s.lv with ⟨rfl, rfl⟩ | rfl
    · exact lvB_nil0
    · exact spL_back ls s.each s.few
  · rcases s.us with ⟨rfl, rfl⟩ | rfl
    · exact us_none (lgC_gus _ _ _)
    · exact us_back (lgC_gus _ _ _) (by have := s.low; omega)
/-- The power is back: one of the contents stands there, and the log opens on it. -/
theorem LogO.back {b h : Nat} {D : Dev} {L : LogM} {P : Ct → Prop} {N : Nat} (o : LogO b h D L P N) (keep : List Int) (hP : ∀ ct, P ct → ct.ok) (hb : b ≤ 4096) (hh : h ≤ 4096) :
    ∃ num ct last, P ct ∧ Sound b h (D.crash keep) (atM num ct last) ∧ num ≤ N + 1 ∧ (D.crash keep).fall = 0 := by
  obtain ⟨D0, num, ct, ct', last, ha, p1, p2, hn⟩ := o.aft
  have hC : Pk.Calm (D.crash keep) := ⟨ha.ok.crash keep, rfl, rfl⟩
  obtain ⟨_, h2⟩ := ha.crash keep
  rcases h2 with h2 | h2
  · exact ⟨num, ct, last, p1, Sound.opened hC h2 (hP _ p1) hb hh, by omega, rfl⟩
  · exact ⟨num + 1, ct', 1 - last, p2, Sound.opened hC h2 (hP _ p2) hb hh, by omega, rfl⟩
theorem logR_open {b h : Nat} {c : Cfg} {D : Dev} {num last : Nat} {a n u : Option Bs} {ls : List ByteArray} {k : Nat} (hS : Sound b h D (atM num (lgC a n u) last)) (s : CtSays a u ls k) (hk : k ≤ 2 ^ c.h) :
    LogR b h c D ⟨atM num (lgC a n u) last, skipN 0 (usI (lgC a n u)) c.h, ls, []⟩ a n u ∧ skipN 0 (usI (lgC a n u)) c.h = k := by
  have hs : skipN 0 (usI (lgC a n u)) c.h = k := by rw [s.read.2.1]; unfold skipN; rw [Int.toNat_natCast]; omega
  exact ⟨⟨hS, rfl, rfl, ⟨fun x hx => s.each x (by simpa using hx), by have := s.few; simpa using this, by have := s.fit; simpa using this, by show skipN 0 (usI (lgC a n u)) c.h ≤ _; rw [hs]; exact hk⟩⟩, hs⟩
end Go.Proofs.YthpfpkikmaiddaaGreatDoor.Tg
