/- Walks of tlog.pointText, sign and Issue. | Walk of (*Log).Issue. | Walk of (*Log).Add. -/
import Derived.Test.YthpfpkikmaiddaaGreatDoorGth
import Derived.Test.YthpfpkikmaiddaaGreatDoorGtc
import Derived.Test.YthpfpkikmaiddaaGreatDoorGng
set_option linter.all false
set_option linter.unusedVariables false
set_option linter.unusedSimpArgs false
namespace Go.Proofs.YthpfpkikmaiddaaGreatDoor.Tg
open Go Go.RowKit Go.Proofs.YthpfpkikmaiddaaGreatDoor.Pk Go.Proofs.YthpfpkikmaiddaaGreatDoor.Nt

theorem fit_leaves (l : List ByteArray) : Fit (l.map leafH) := fun x hx => by
  obtain ⟨y, _, rfl⟩ := List.mem_map.1 hx
  rw [leafH_size]; omega
theorem ckT_le {c : Ck} (h : gC c = true) : (ckT c).size ≤ 1000 := by
  have h1 := gO_size (gC_iff.1 h).1
  have h2 := (gC_iff.1 h).2
  rw [(ckT_eq c).symm]
  have h3 := txN_size c.n (by omega) (by omega)
  have h4 := hxT_size c.r
  simp only [ByteArray.size_append]
  have e1 : sT.size = 18 := rfl
  have e2 : sN.size = 1 := rfl
  omega
set_option maxHeartbeats 1600000 in
theorem point_any (o : ByteArray) (hs : List ByteArray) (a : Option Addr) (n c B : Nat) (w : World) (hL : NL B w) (hBw : B ≤ w.heap.size) (hK : KIs w) (hP : PA w a n c hs) (hF : Fit hs) (ho : o.size ≤ 140737488355328) :
    Calls Tryz.prog 35 #[.string o, .slice a n c] w fun e w' => e = .returned (txtV ⟨o, (n : Int), rootL hs⟩) ∧ Below w.heap.size w w' := by
  have hR := root_any n hs a c w hP hK hF
  have hr := root_size hs hF
  have hT := Box.mk (fun w1 (hb : Below w.heap.size w w1) => text_any ⟨o, (n : Int), rootL hs⟩ B w1 (hL.here hBw hb) (Nat.le_trans hBw hb.size) ho (by show (rootL hs).size ≤ _; omega))
  unfold ckV at hT
  obtain ⟨R, hRe⟩ : ∃ R, rootL hs = R := ⟨_, rfl⟩
  rw [hRe] at hR hT
  rw [hRe]
  have hv : ∃ S E, txtV ⟨o, (n : Int), R⟩ = .tuple #[.string S, .int .i64 E] := ⟨_, _, rfl⟩
  obtain ⟨S, E, hv⟩ := hv
  rw [hv] at hT ⊢
  clear hL hBw hK hP hF ho hr hRe hv
  go_enter Tryz.func35, Tryz.ntmps35
  go_wp2_with fail
  refine hR.mono ?_
  clear hR
  rintro e w1 ⟨rfl, hb1⟩
  have hF := hT.out w1 hb1
  replace hb1 := Box.mk hb1
  clear hT
  go_wp2_with fail
  refine hF.mono ?_
  clear hF
  rintro e w2 ⟨rfl, hb2⟩
  replace hb2 := Box.mk (mono_bel hb1.out hb2 (Nat.le_refl _))
  go_wp2_with fail
  go_returns
  exact ⟨rfl, hb2.out⟩
section
variable {w0 w : World} {p : Pl} {b h : Nat} {c : Cfg} {D : Dev} {L : LogM} {vl vh vp : Value} {X : Pk.Obj}
theorem tl_drew (hk : Kept w0 (Pair2 (TLo p b h c D L vl vh vp) X) w) (gX : Pk.Good X) : Kept w0 (Pair2 (TLo p b h c D L vl vh vp) X) w.drew := tl_here hk gX (dB w)
set_option maxHeartbeats 3200000 in
set_option maxRecDepth 100000 in
theorem tsign_any (hE : Env w0) (hk : Kept w0 (Pair2 (TLo p b h c D L vl vh vp) X) w) (gX : Pk.Good X) (hc : c.ok) (hL : L.ok c) (hu : L.u < 2 ^ c.h) :
    Calls Tryz.prog 48 #[.pointer (some ⟨p.bl, 0, none⟩)] w fun e w' => e = .returned (.tuple #[.string (ntT L c), .int .i64 0]) ∧ Box (Kept w0 (Pair2 (TLo p b h c D { L with u := L.u + 1 } vl vh vp) X) w') := by
  have hgC := gC_of hc hL
  have hgN := gN_of hc hL
  have hptS : (ptT L c).size ≤ 1000 := ckT_le hgC
  obtain ⟨_, ⟨ah, ch, hvh, _⟩, _⟩ := tl_rows hk
  have hcel := Box.mk (fun w1 (L1 : LogM) (hk1 : Kept w0 (Pair2 (TLo p b h c D L1 vl vh vp) X) w1) => (show w1.cell? ⟨p.bl, 0, none⟩ = some (.string c.o) ∧ w1.cell? ⟨p.bl, 1, none⟩ = some (.pointer (some ⟨p.bk, 0, none⟩)) ∧ w1.cell? ⟨p.bl, 4, none⟩ = some (.slice ah L.lv.length ch) from
    ⟨(tl_blk hk1).cell 0, (tl_blk hk1).cell 1, by rw [← hvh]; exact (tl_blk hk1).cell 4⟩))
  have hPt := Box.mk (fun w1 (hk1 : Kept w0 (Pair2 (TLo p b h c D L vl vh vp) X) w1) => (show Calls Tryz.prog 35 #[.string c.o, .slice ah L.lv.length ch] w1 fun e w' => e = .returned (.tuple #[.string (ptT L c), .int .i64 0]) ∧ Kept w0 (Pair2 (TLo p b h c D L vl vh vp) X) w' from by
    obtain ⟨_, ⟨a2, c2, hv2, hPA⟩, _⟩ := tl_rows hk1
    rw [hvh] at hv2
    cases hv2
    have h1 := point_any c.o (L.lv.map leafH) ah L.lv.length ch w0.heap.size w1 (hE.nlAt hk1.k) hk1.k.size (hE.kisAt hk1.k) hPA (fit_leaves _) (by have := gO_size hc.o; omega)
    rw [txtV_yes (show gC ⟨c.o, (L.lv.length : Int), rootL (L.lv.map leafH)⟩ = true from hgC)] at h1
    exact h1.mono fun e w' ⟨he, hb⟩ => ⟨he, tl_here hk1 gX hb⟩))
  have hSg := Box.mk (fun w1 (hk1 : Kept w0 (Pair2 (TLo p b h c D L vl vh vp) X) w1) => kept_step hk1 (lift_key gX (ksign_does hE (ptT L c) hc.s (by omega) hu)))
  have hId := Box.mk (fun w1 (hk1 : Kept w0 (Pair2 (TLo p b h c D { L with u := L.u + 1 } vl vh vp) X) w1) => kept_step hk1 (lift_key gX (kid_does hE hc.s)))
  have hFm := Box.mk (fun w1 (hk1 : Kept w0 (Pair2 (TLo p b h c D { L with u := L.u + 1 } vl vh vp) X) w1) (a : Option Addr) (hv : SigsAt w1 (.slice a 1 1) (sgOf L c)) => (show Calls Tryz.prog 97 #[.agg #[.string (ptT L c), .slice a 1 1]] w1 fun e w' => e = .returned (.tuple #[.string (ntT L c), .int .i64 0]) ∧ Below w1.heap.size w1 w' from by
    have h1 := format_any (ptT L c) a 1 1 (sgOf L c) w0.heap.size w1 (hE.nlAt hk1.k) hk1.k.size (by omega) hv rfl (by omega) (fun x hx => by
      rw [List.mem_singleton.1 hx]
      have h1 := keyID_size c.s c.h
      have h2 := keyS_size c.s c.h L.u (ptT L c)
      have h3 := hc.h
      constructor
      · show (keyID c.s c.h).size ≤ _; omega
      · show (keyS c.s c.h L.u (ptT L c)).size ≤ _; omega)
    rw [fmV_yes hgN] at h1
    exact h1))
  have hsn := Box.mk (fun w1 => sig_new w1 (keyID c.s c.h, keyS c.s c.h L.u (ptT L c)))
  unfold sgOf at hFm
  obtain ⟨T, hT⟩ : ∃ T, ptT L c = T := ⟨_, rfl⟩
  obtain ⟨NT, hNT⟩ : ∃ T, ntT L c = T := ⟨_, rfl⟩
  rw [hNT] at hFm
  rw [hT] at hPt hSg hFm hsn
  rw [hNT]
  obtain ⟨id, hid⟩ : ∃ x, keyID c.s c.h = x := ⟨_, rfl⟩
  obtain ⟨sg, hsg⟩ : ∃ x, keyS c.s c.h L.u T = x := ⟨_, rfl⟩
  rw [hid] at hId hFm hsn
  rw [hsg] at hSg hFm hsn
  obtain ⟨bl, hbl⟩ : ∃ x, p.bl = x := ⟨_, rfl⟩
  obtain ⟨bk, hbk⟩ : ∃ x, p.bk = x := ⟨_, rfl⟩
  obtain ⟨n, hn⟩ : ∃ x, L.lv.length = x := ⟨_, rfl⟩
  rw [hbl, hbk, hn] at hcel
  rw [hbk] at hSg hId
  rw [hn] at hPt
  rw [hbl]
  have hgX := Box.mk gX
  obtain ⟨o, ho⟩ : ∃ x, c.o = x := ⟨_, rfl⟩
  rw [ho] at hcel hPt
  have hd := tl_drew hk gX
  clear hgC hgN hptS hvh hT hNT hid hsg hbl hbk hn hE hc hL hu gX ho
  go_enter Tryz.func48, Tryz.ntmps48
  go_wp2_with fail
  refine region_quiet (fun w' => Kept w0 (Pair2 (TLo p b h c D L vl vh vp) X) w') (by kernel_rfl) (by kernel_rfl) hd ?_
  repeat (go_big_quiet_step (first | exact fun _ => rfl | rfl))
  refine quiet_val rfl (.string o) (fun w' hw' => by have h3 := (hcel.out w' _ hw').1; go_simp) ?_
  simp only [Act.put, List.setIfInBounds_toArray, List.set_cons_succ, List.set_cons_zero]
  repeat (go_big_quiet_step (first | exact fun _ => rfl | rfl))
  refine quiet_val rfl (.slice ah n ch) (fun w' hw' => by have h3 := (hcel.out w' _ hw').2.2; go_simp) ?_
  simp only [Act.put, List.setIfInBounds_toArray, List.set_cons_succ, List.set_cons_zero]
  repeat (go_big_quiet_step (first | exact fun _ => rfl | rfl))
  refine quiet_call rfl (.tuple #[.string T, .int .i64 0]) (fun w' hw' => hPt.out w' hw') (fun w' _ => by go_simp) ?_
  simp only [Act.put, List.setIfInBounds_toArray, List.set_cons_succ, List.set_cons_zero]
  repeat (go_big_quiet_step (first | exact fun _ => rfl | rfl))
  refine wpQuiet_nil ?_
  clear hd hk hPt
  intro w1 hk1
  obtain ⟨_, c1, _⟩ := hcel.out w1 _ hk1
  have hF := hSg.out w1 hk1
  clear hSg
  go_wp2_with fail
  refine hF.mono ?_
  clear hF c1 hk1
  rintro e w2 ⟨rfl, hk2⟩
  obtain ⟨_, c1, _⟩ := hcel.out w2 _ hk2.out
  have hF := hId.out w2 hk2.out
  clear hId
  go_wp2_with fail
  refine hF.mono ?_
  clear hF c1 hk2
  rintro e w3 ⟨rfl, hk3⟩
  have hk4 := Box.mk (tl_here hk3.out hgX.out (bel_alloc w3 (.cells #[.string id, .string sg] 58)))
  have hF := hFm.out _ hk4.out _ (hsn.out w3)
  clear hFm hsn
  go_wp2_with fail
  refine hF.mono ?_
  clear hF
  rintro e w5 ⟨rfl, hb5⟩
  have hk5 := Box.mk (tl_here hk4.out hgX.out hb5)
  clear hb5 hk4 hk3
  go_wp2_with fail
  go_returns
  exact ⟨rfl, hk5⟩
end
end Go.Proofs.YthpfpkikmaiddaaGreatDoor.Tg

namespace Go.Proofs.YthpfpkikmaiddaaGreatDoor.Tg
open Go Go.RowKit Go.Proofs.YthpfpkikmaiddaaGreatDoor.Pk Go.Proofs.YthpfpkikmaiddaaGreatDoor.Nt

theorem two_pow_le (h : Nat) (hh : h ≤ 4) : 2 ^ h ≤ 16 := Nat.le_trans (Nat.pow_le_pow_right (by omega) hh) (by decide)
section
variable {w0 w : World} {p : Pl} {b h : Nat} {c : Cfg} {D : Dev} {L : LogM} {vl vh vp : Value} {X : Pk.Obj}
theorem nt_len (hc : c.ok) (hL : L.ok c) : (ntT L c).data.toList.length ≤ 40000 := by
  have h1 := byN_len (gN_of hc hL)
  have h2 : (ptT L c).size ≤ 1000 := ckT_le (gC_of hc hL)
  show (byN (ptT L c, sgOf L c)).length ≤ _
  omega
set_option maxHeartbeats 3200000 in
set_option maxRecDepth 100000 in
theorem tissue_any {k : Nat} (hE : Env w0) (hk : Kept w0 (Pair2 (TLo p b h c D L vl vh vp) X) w) (gX : Pk.Good X) (hc : c.ok) (hL : L.ok c) (hB : Bd k D L.C) (h98 : k ≤ 98) (hh : h ≤ 300) :
    Calls Tryz.prog 13 #[.pointer (some ⟨p.bl, 0, none⟩)] w fun e w' => e = .returned (.tuple #[.string (issT b h D L c), .int .i64 (issE b h D L c)]) ∧ Box (Kept w0 (Pair2 (TLx p b h c (issD b h D L c) (issM b h D L c)) X) w') := by
  have hIs := tissued_any hE hk gX
  have hSz := Box.mk (fun w1 (hk1 : Kept w0 (Pair2 (TLo p b h c D L vl vh vp) X) w1) => tsize_any hk1)
  have hNo := Box.mk (fun w1 (hk1 : Kept w0 (Pair2 (TLo p b h c D L vl vh vp) X) w1) => tnote_any hk1 gX)
  have hLf := Box.mk (fun w1 (hk1 : Kept w0 (Pair2 (TLo p b h c D L vl vh vp) X) w1) => tleft_any hk1 gX hL.u)
  have hUs := Box.mk (fun w1 (hk1 : Kept w0 (Pair2 (TLo p b h c D L vl vh vp) X) w1) => kept_step hk1 (lift_key gX kused_does))
  have hiB := issI_isB L.C.now L.lv.length
  have h16 := two_pow_le c.h hc.h
  have hu := hL.u
  unfold issT issE issD issM
  obtain ⟨bl, hbl⟩ : ∃ x, p.bl = x := ⟨_, rfl⟩
  obtain ⟨I, hI⟩ : ∃ x, issI L.C.now = x := ⟨_, rfl⟩
  rw [hI] at hIs hiB
  rw [hbl] at hIs hSz hNo hLf
  by_cases hb : isB L.C.now L.lv.length = true
  · rw [if_pos hb, if_pos hb, if_pos hb, if_pos hb]
    have hIe := hiB.2 hb
    subst hIe
    rw [hbl]
    have hgX := Box.mk gX
    obtain ⟨n, hn⟩ : ∃ x, L.lv.length = x := ⟨_, rfl⟩
    obtain ⟨T, hT⟩ : ∃ x, noT L.C.now = x := ⟨_, rfl⟩
    rw [hn] at hIs hSz
    rw [hT] at hNo
    rw [hT]
    clear hLf hUs hiB h16 hu hI hb hE hc hL hB hk gX hbl hn hT
    go_enter Tryz.func13, Tryz.ntmps13
    go_wp2_with fail
    refine hIs.mono ?_
    clear hIs
    rintro e w1 ⟨rfl, hk1⟩
    have hF := hSz.out w1 hk1.out
    clear hSz
    go_wp2_with fail
    refine hF.mono ?_
    clear hF
    rintro e w2 ⟨rfl, rfl⟩
    have hF := hNo.out w1 hk1.out
    clear hNo hk1
    go_wp2_with fail
    refine hF.mono ?_
    clear hF
    rintro e w3 ⟨rfl, hk3⟩
    replace hk3 := Box.mk (tlx_close hk3.out)
    go_wp2_with fail
    go_returns
    exact ⟨rfl, hk3⟩
  · rw [if_neg hb, if_neg hb, if_neg hb, if_neg hb]
    have hIe : (I == (L.lv.length : Int)) = false := by simpa using fun e => hb (hiB.1 e)
    by_cases hsp : L.u = 2 ^ c.h
    · rw [if_pos hsp, if_pos hsp, if_pos hsp, if_pos hsp]
      have hz : 2 ^ c.h - L.u = 0 := by omega
      rw [hz] at hLf
      rw [hbl]
      obtain ⟨n, hn⟩ : ∃ x, L.lv.length = x := ⟨_, rfl⟩
      rw [hn] at hSz hIe
      clear hNo hUs hiB h16 hu hI hb hE hc hL hB hk gX hbl hn hsp hz
      go_enter Tryz.func13, Tryz.ntmps13
      go_wp2_with fail
      refine hIs.mono ?_
      clear hIs
      rintro e w1 ⟨rfl, hk1⟩
      have hF := hSz.out w1 hk1.out
      clear hSz
      go_wp2_with fail
      refine hF.mono ?_
      clear hF
      rintro e w2 ⟨rfl, rfl⟩
      have hF := hLf.out w1 hk1.out
      clear hLf hk1
      go_wp2_with fail
      refine hF.mono ?_
      clear hF
      rintro e w3 ⟨rfl, hk3⟩
      replace hk3 := Box.mk (tlx_close hk3.out)
      go_wp2_with fail
      go_returns
      exact ⟨rfl, hk3⟩
    · rw [if_neg hsp, if_neg hsp, if_neg hsp, if_neg hsp]
      have hlt : L.u < 2 ^ c.h := by omega
      have hUB := Box.mk (fun w1 => usedBytes_any (L.u + 1) w1 (by omega))
      have hCu := Box.mk (fun w1 (hk1 : Kept w0 (Pair2 (TLo p b h c D L vl vh vp) X) w1) => tcommit_us gX hk1 hB (by omega) (usB (L.u + 1)) (by unfold usB; rw [Pk.beN_length]; decide))
      have hcel := Box.mk (fun w1 (hk1 : Kept w0 (Pair2 (TLo p b h c D L vl vh vp) X) w1) => (show w1.cell? ⟨p.bl, 1, none⟩ = some (.pointer (some ⟨p.bk, 0, none⟩)) from (tl_blk hk1).cell 1))
      have hL1 : LogM.ok { L with C := usC b h D L } c := ⟨hL.each, hL.few, hL.fit, hL.u⟩
      have hSn := Box.mk (fun w1 (hk1 : Kept w0 (Pair2 (TLo p b h c (usD b h D L) { L with C := usC b h D L } vl vh vp) X) w1) => tsign_any hE hk1 gX hc hL1 hlt)
      have hB1 : Bd (k + 1) (usD b h D L) (usC b h D L) := pc_bd hB hh nUs (usB (L.u + 1))
      have hCn := Box.mk (fun w1 (hk1 : Kept w0 (Pair2 (TLo p b h c (usD b h D L) { L with C := usC b h D L, u := L.u + 1 } vl vh vp) X) w1) => (show Calls Tryz.prog 42 #[.pointer (some ⟨p.bl, 0, none⟩), .string ⟨#[110, 111, 116, 101]⟩, .string (ntT L c)] w1 fun e w' => e = .returned (.int .i64 (noE b h D L c)) ∧ Box (Kept w0 (Pair2 (TLo p b h c (noD b h D L c) { L with C := noC b h D L c, u := L.u + 1 } vl vh vp) X) w') from by
        have h1 := tcommit_no gX hk1 hB1 (by omega) (ntT L c).data.toList (by have := nt_len hc hL; unfold maxLen; omega)
        rw [mk_data] at h1
        exact h1))
      have hnt : ntT { L with C := usC b h D L } c = ntT L c := rfl
      rw [hnt] at hSn
      have hue : pcE b h D L.C nUs (usB (L.u + 1)) = usE b h D L := rfl
      have hud : pcD b h D L.C nUs (usB (L.u + 1)) = usD b h D L := rfl
      have huc : pcC b h D L.C nUs (usB (L.u + 1)) = usC b h D L := rfl
      rw [hue, hud, huc] at hCu
      obtain ⟨UE, hUE⟩ : ∃ x, usE b h D L = x := ⟨_, rfl⟩
      rw [hUE] at hCu ⊢
      obtain ⟨NE, hNE⟩ : ∃ x, noE b h D L c = x := ⟨_, rfl⟩
      rw [hNE] at hCn ⊢
      obtain ⟨NT, hNT⟩ : ∃ x, ntT L c = x := ⟨_, rfl⟩
      rw [hNT] at hCn hSn ⊢
      obtain ⟨UT, hUT⟩ : ∃ x, btx (usB (L.u + 1)) = x := ⟨_, rfl⟩
      rw [hUT] at hCu hUB
      obtain ⟨D1, hD1⟩ : ∃ x, usD b h D L = x := ⟨_, rfl⟩
      obtain ⟨C1, hC1⟩ : ∃ x, usC b h D L = x := ⟨_, rfl⟩
      rw [hD1, hC1] at hCu hSn hCn ⊢
      obtain ⟨D2, hD2⟩ : ∃ x, noD b h D L c = x := ⟨_, rfl⟩
      obtain ⟨C2, hC2⟩ : ∃ x, noC b h D L c = x := ⟨_, rfl⟩
      rw [hD2, hC2] at hCn ⊢
      obtain ⟨bk, hbk⟩ : ∃ x, p.bk = x := ⟨_, rfl⟩
      rw [hbk] at hUs hcel
      rw [hbl] at hCu hcel hSn hCn ⊢
      obtain ⟨n, hn⟩ : ∃ x, L.lv.length = x := ⟨_, rfl⟩
      rw [hn] at hSz hIe
      have hlz : ∃ q : Nat, 2 ^ c.h - L.u = q + 1 ∧ q ≤ 100 := ⟨2 ^ c.h - L.u - 1, by omega, by omega⟩
      obtain ⟨q, hq, hq1⟩ := hlz
      rw [hq] at hLf
      have hqz : (((q + 1 : Nat) : Int) == 0) = false := by simp; omega
      obtain ⟨Q, hQ⟩ : ∃ Q : Int, ((q + 1 : Nat) : Int) = Q := ⟨_, rfl⟩
      rw [hQ] at hLf hqz
      have hu16 : L.u ≤ 16 := by omega
      have hgX := Box.mk gX
      rw [show ((L.u + 1 : Nat) : Int) = (L.u : Int) + 1 by omega] at hUB
      clear hNo hiB h16 hu hI hb hE hc hL hB hk gX hbl hn hsp hue hud huc hUE hNE hNT hUT hD1 hC1 hD2 hC2 hbk hB1 hL1 hnt hlt hq hQ hq1
      by_cases hUz : UE = 0
      · subst hUz
        have h00 : ¬ ((0 : Int) ≠ 0) := by simp
        rw [if_neg h00, if_neg h00, if_neg h00, if_neg h00]
        clear h00
        have htail : Box (∀ w3, Kept w0 (Pair2 (TLo p b h c D2 { L with C := C2, u := L.u + 1 } vl vh vp) X) w3 → Kept w0 (Pair2 (TLx p b h c D2 { L with C := C2, u := L.u + 1 }) X) w3) := ⟨fun w3 hk3 => tlx_close hk3⟩
        by_cases hNz : NE = 0
        · subst hNz
          rw [if_pos rfl]
          go_enter Tryz.func13, Tryz.ntmps13
          go_wp2_with fail
          refine hIs.mono ?_
          clear hIs
          rintro e w1 ⟨rfl, hk1⟩
          have hF := hSz.out w1 hk1.out
          clear hSz
          go_wp2_with fail
          refine hF.mono ?_
          clear hF
          rintro e w2 ⟨rfl, rfl⟩
          have hF := hLf.out w1 hk1.out
          clear hLf hk1
          go_wp2_with fail
          refine hF.mono ?_
          clear hF
          rintro e w3 ⟨rfl, hk3⟩
          have c1 := hcel.out w3 hk3.out
          have hF := hUs.out w3 hk3.out
          clear hUs hcel
          go_wp2_with fail
          refine hF.mono ?_
          clear hF c1 hk3
          rintro e w4 ⟨rfl, hk4⟩
          have hF := hUB.out w4
          clear hUB
          go_wp2_with fail
          refine hF.mono ?_
          clear hF
          rintro e w5 ⟨rfl, hb5⟩
          have hF := hCu.out w5 (tl_here hk4.out hgX.out hb5)
          clear hCu hk4 hb5
          go_wp2_with fail
          refine hF.mono ?_
          clear hF
          rintro e w6 ⟨rfl, hk6⟩
          have hF := hSn.out w6 hk6.out
          clear hSn hk6
          go_wp2_with fail
          refine hF.mono ?_
          clear hF
          rintro e w7 ⟨rfl, hk7⟩
          have hF := hCn.out w7 hk7.out
          clear hCn hk7
          go_wp2_with fail
          refine hF.mono ?_
          clear hF
          rintro e w8 ⟨rfl, hk8⟩
          replace hk8 := Box.mk (htail.out w8 hk8.out)
          go_wp2_with fail
          go_returns
          exact ⟨rfl, hk8⟩
        · rw [if_neg hNz]
          have hNb : (NE == 0) = false := by simpa using hNz
          go_enter Tryz.func13, Tryz.ntmps13
          go_wp2_with fail
          refine hIs.mono ?_
          clear hIs
          rintro e w1 ⟨rfl, hk1⟩
          have hF := hSz.out w1 hk1.out
          clear hSz
          go_wp2_with fail
          refine hF.mono ?_
          clear hF
          rintro e w2 ⟨rfl, rfl⟩
          have hF := hLf.out w1 hk1.out
          clear hLf hk1
          go_wp2_with fail
          refine hF.mono ?_
          clear hF
          rintro e w3 ⟨rfl, hk3⟩
          have c1 := hcel.out w3 hk3.out
          have hF := hUs.out w3 hk3.out
          clear hUs hcel
          go_wp2_with fail
          refine hF.mono ?_
          clear hF c1 hk3
          rintro e w4 ⟨rfl, hk4⟩
          have hF := hUB.out w4
          clear hUB
          go_wp2_with fail
          refine hF.mono ?_
          clear hF
          rintro e w5 ⟨rfl, hb5⟩
          have hF := hCu.out w5 (tl_here hk4.out hgX.out hb5)
          clear hCu hk4 hb5
          go_wp2_with fail
          refine hF.mono ?_
          clear hF
          rintro e w6 ⟨rfl, hk6⟩
          have hF := hSn.out w6 hk6.out
          clear hSn hk6
          go_wp2_with fail
          refine hF.mono ?_
          clear hF
          rintro e w7 ⟨rfl, hk7⟩
          have hF := hCn.out w7 hk7.out
          clear hCn hk7
          go_wp2_with fail
          refine hF.mono ?_
          clear hF
          rintro e w8 ⟨rfl, hk8⟩
          replace hk8 := Box.mk (htail.out w8 hk8.out)
          go_wp2_with fail
          go_returns
          exact ⟨rfl, hk8⟩
      · rw [if_pos hUz, if_pos hUz, if_pos hUz, if_pos hUz]
        have hUb : (UE == 0) = false := by simpa using hUz
        clear hSn hCn
        go_enter Tryz.func13, Tryz.ntmps13
        go_wp2_with fail
        refine hIs.mono ?_
        clear hIs
        rintro e w1 ⟨rfl, hk1⟩
        have hF := hSz.out w1 hk1.out
        clear hSz
        go_wp2_with fail
        refine hF.mono ?_
        clear hF
        rintro e w2 ⟨rfl, rfl⟩
        have hF := hLf.out w1 hk1.out
        clear hLf hk1
        go_wp2_with fail
        refine hF.mono ?_
        clear hF
        rintro e w3 ⟨rfl, hk3⟩
        have c1 := hcel.out w3 hk3.out
        have hF := hUs.out w3 hk3.out
        clear hUs hcel
        go_wp2_with fail
        refine hF.mono ?_
        clear hF c1 hk3
        rintro e w4 ⟨rfl, hk4⟩
        have hF := hUB.out w4
        clear hUB
        go_wp2_with fail
        refine hF.mono ?_
        clear hF
        rintro e w5 ⟨rfl, hb5⟩
        have hF := hCu.out w5 (tl_here hk4.out hgX.out hb5)
        clear hCu hk4 hb5
        go_wp2_with fail
        refine hF.mono ?_
        clear hF
        rintro e w6 ⟨rfl, hk6⟩
        replace hk6 := Box.mk (tlx_close hk6.out)
        go_wp2_with fail
        go_returns
        exact ⟨rfl, hk6⟩
end
end Go.Proofs.YthpfpkikmaiddaaGreatDoor.Tg

namespace Go.Proofs.YthpfpkikmaiddaaGreatDoor.Tg
open Go Go.RowKit Go.Proofs.YthpfpkikmaiddaaGreatDoor.Pk Go.Proofs.YthpfpkikmaiddaaGreatDoor.Nt

section
variable {w0 w w2 : World} {p : Pl} {b h : Nat} {c : Cfg} {D : Dev} {L : LogM} {vl vh vp v' : Value} {X : Pk.Obj} {x : ByteArray}
theorem tl_push (hk : Kept w0 (Pair2 (TLo p b h c D L vl vh vp) X) w) (gX : Pk.Good X) (hp : PushedT 0 w vp (L.pd ++ [x]) v' w2) : Kept w0 (Pair2 (TLo p b h c D { L with pd := L.pd ++ [x] } vl vh v') X) (w2.setCell ⟨p.bl, 5, none⟩ v') := by
  refine tl_move hk gX rfl rfl fun F k => ?_
  have hbp := txr_apart k.rp k.blk (by decide)
  have hB1 := hp.chg.blk k.blk hbp
  have hc : Chg F w (w2.setCell ⟨p.bl, 5, none⟩ v') := (hp.chg.mono fun i _ e => k.fp i e).setCell (p := ⟨p.bl, 5, none⟩) k.fb _
  have hRl := k.rl.chg hp.chg fun i hi e => k.lp i hi e
  have hRh := k.rh.chg hp.chg fun i hi e => k.hp i hi e
  refine ⟨⟨hB1.setCell 5 _, txr_set hRl hB1 (by decide) 5 _, txr_set hRh hB1 (by decide) 5 _, txr_set hp.row hB1 (by decide) 5 _, .inl k.fb, fun i hi => .inl (k.fl i hi), fun i hi => .inl (k.fh i hi), fun i hi => ?_, k.lh, fun i hi e => ?_, fun i hi e => ?_, fun i hi => ?_⟩, hc⟩
  · rcases hp.place i hi with e | e
    · exact .inl (k.fp i e)
    · exact .inr ⟨e, by have := (hp.row.own i hi).2; simpa using this⟩
  · rcases hp.place i e with e2 | e2
    · exact k.lp i hi e2
    · have := (k.rl.own i hi).2; omega
  · rcases hp.place i e with e2 | e2
    · exact k.hp i hi e2
    · have := (k.rh.own i hi).2; omega
  · rcases hi with hi | hi
    · exact Nat.lt_of_lt_of_le (k.lt i hi) hc.size
    · exact hi.2
set_option maxHeartbeats 3200000 in
set_option maxRecDepth 100000 in
theorem tadd_any (hk : Kept w0 (Pair2 (TLo p b h c D L vl vh vp) X) w) (gX : Pk.Good X) (hL : L.ok c) (x : ByteArray) (hx : x.size ≤ 140737488355328) :
    Calls Tryz.prog 11 #[.pointer (some ⟨p.bl, 0, none⟩), .string x] w fun e w' => e = .returned (.int .i64 (addE L x)) ∧ Box (Kept w0 (Pair2 (TLx p b h c D (addM L x)) X) w') := by
  by_cases h4 : 1024 < x.size
  · have he : addE L x = 4 := by unfold addE; rw [if_pos h4]
    have hm : addM L x = L := by unfold addM; rw [he, if_neg (by decide)]
    rw [he, hm]
    have hkB := Box.mk (tlx_close hk)
    have h4i : (x.size : Int) > 1024 := by omega
    obtain ⟨bl, hbl⟩ : ∃ x, p.bl = x := ⟨_, rfl⟩
    rw [hbl]
    clear hk hL he hm h4 hbl gX
    go_enter Tryz.func11, Tryz.ntmps11
    go_wp2_with fail
    go_ret
    exact ⟨rfl, hkB⟩
  · obtain ⟨F, hLr, _, _⟩ := tl_lr hk
    have hall := all_any p.bl c.o p.bk p.bc vl vh vp L.lv L.pd w hLr.blk hLr.rl hLr.rp (by have := hL.few; omega)
    have hfew := hL.few
    have hflen : (L.lv ++ L.pd ++ [x]).length = L.lv.length + L.pd.length + 1 := by simp; omega
    have hfit := fun w1 (a : Option Addr) (n cc : Nat) (hPA : PA w1 a n cc (L.lv ++ L.pd ++ [x])) => fits_any (L.lv ++ L.pd ++ [x]) a n cc w1 hPA (fun y hy => by
      rcases List.mem_append.1 hy with hy | hy
      · exact Nat.le_trans (hL.each y hy) (by omega)
      · rw [List.mem_singleton.1 hy]; omega) (by have := hPA.len; omega)
    have hbl5 := lvB_snoc_len (L.lv ++ L.pd) x
    obtain ⟨a5, cc5, hvp, _⟩ := (tl_rows hk).2.2
    have hcel := Box.mk (fun w1 (hk1 : Kept w0 (Pair2 (TLo p b h c D L vl vh vp) X) w1) => (show w1.cell? ⟨p.bl, 5, none⟩ = some (.slice a5 L.pd.length cc5) from by rw [← hvp]; exact (tl_blk hk1).cell 5))
    have hrp := Box.mk (fun w1 (hk1 : Kept w0 (Pair2 (TLo p b h c D L vl vh vp) X) w1) => (show TxR 0 w1 (.slice a5 L.pd.length cc5) L.pd from by
      obtain ⟨F1, h1, _⟩ := tl_lr hk1
      rw [← hvp]; exact h1.rp))
    have hpu := Box.mk (fun w1 w2 v' (hk1 : Kept w0 (Pair2 (TLo p b h c D L vl vh vp) X) w1) (hp : PushedT 0 w1 (.slice a5 L.pd.length cc5) (L.pd ++ [x]) v' w2) => (show Pk.Blk w2 p.bl (lrC c.o p.bk p.bc vl vh vp) 86 ∧ Kept w0 (Pair2 (TLx p b h c D { L with pd := L.pd ++ [x] }) X) (w2.setCell ⟨p.bl, 5, none⟩ v') from by
      rw [← hvp] at hp
      obtain ⟨F1, h1, _⟩ := tl_lr hk1
      exact ⟨hp.chg.blk h1.blk (txr_apart h1.rp h1.blk (by decide)), tlx_close (tl_push hk1 gX hp)⟩))
    have hlim : Box (((L.lv ++ L.pd).length + 1) * 16 ≤ 140737488355328) := ⟨by rw [List.length_append]; omega⟩
    have hlim2 : Box ((L.pd.length + 1) * 16 ≤ 140737488355328) := ⟨by omega⟩
    have h4i : ¬ (x.size : Int) > 1024 := by omega
    have hkB := Box.mk hk
    have hgX := Box.mk gX
    obtain ⟨Y, hY⟩ : ∃ Y, decide (L.lv.length + L.pd.length + 1 ≤ 1024 ∧ (lvB (L.lv ++ L.pd ++ [x])).length ≤ 65535) = Y := ⟨_, rfl⟩
    have hfit2 : Box (∀ w1 (a : Option Addr) (n cc : Nat), PA w1 a n cc (L.lv ++ L.pd ++ [x]) → Calls Tryz.prog 40 #[.slice a n cc] w1 fun e w' => e = .returned (.bool Y) ∧ w1 = w') := ⟨fun w1 a n cc hPA => by
      have h1 := hfit w1 a n cc hPA
      rw [show n = L.lv.length + L.pd.length + 1 by have := hPA.len; omega] at h1 ⊢
      rw [hY] at h1
      exact h1⟩
    obtain ⟨bl, hbl⟩ : ∃ x, p.bl = x := ⟨_, rfl⟩
    rw [hbl] at hall hcel hpu
    obtain ⟨M, hM⟩ : ∃ M, addM L x = M := ⟨_, rfl⟩
    obtain ⟨N, hN⟩ : ∃ N, L.pd.length = N := ⟨_, rfl⟩
    rw [hN] at hcel hrp hpu
    cases Y with
    | false =>
      have hY2 := of_decide_eq_false hY
      have he : addE L x = 6 := by unfold addE; rw [if_neg h4, if_pos (by omega)]
      have hm : addM L x = L := by unfold addM; rw [he, if_neg (by decide)]
      rw [he, hm, hbl]
      clear hM hY hY2 he hm hk gX hL hLr hvp hfit hbl5 h4 hflen hfew hpu hrp hbl hN hcel
      go_enter Tryz.func11, Tryz.ntmps11
      go_wp2_with fail
      refine hall.mono ?_
      clear hall
      rintro e w1 ⟨v, rfl, hT1, hB1⟩
      have hk1 := Box.mk (tl_here hkB.out hgX.out hB1)
      have hz := Box.mk (parts_new w1 [x] 9)
      have hb2 := bel_alloc w1 (.cells #[.string x] 9)
      have hT2 := Box.mk ((hT1.base (Nat.zero_le _)).here hb2)
      have hk2 := Box.mk (tl_here hk1.out hgX.out hb2)
      have hT1l : Box (∀ k, v.ownBlock = some k → w.heap.size ≤ k) := ⟨fun k hk => (hT1.own k hk).1⟩
      obtain ⟨a1, n1, cc1, rfl⟩ : ∃ a n cc, v = .slice a n cc := (by obtain ⟨a1, cc1, e⟩ := hT1.shape; exact ⟨a1, _, cc1, e⟩)
      have hkk : Box (∀ vo w4, PushedT 0 (w1.alloc (.cells #[.string x] 9)) (.slice a1 n1 cc1) (L.lv ++ L.pd ++ [x]) vo w4 → Kept w0 (Pair2 (TLx p b h c D L) X) w4) := ⟨fun vo w4 hp => by
        have hbl : Below w.heap.size w w4 := (hB1.trans (hb2.mono hB1.size)).trans (hp.chg.below (hB1.trans (hb2.mono hB1.size)).size fun k hk => hT1l.out k hk)
        exact tlx_close (tl_here hkB.out hgX.out hbl)⟩
      clear hT1 hB1 hb2 hk1 hT1l
      go_wp2_with (refine wpList_pushT rfl (.tmp 14) (.tmp 16) rfl 0 _ _ [x] rfl hT2.out (Nat.zero_le _) (some ⟨w1.heap.size, 0, none⟩) 1 1 rfl rfl hz.out hlim.out ?_; intro vo w4 hpush; have hkf := Box.mk (hkk.out _ _ hpush); obtain ⟨a3, n3, cc3, rfl, hP3⟩ : ∃ a n cc, vo = .slice a n cc ∧ PA w4 a n cc (L.lv ++ L.pd ++ [x]) := (by obtain ⟨a, cc, e, hP⟩ := txr_pa hpush.row; exact ⟨a, _, cc, e, hP⟩); have hF := hfit2.out w4 a3 n3 cc3 hP3; clear hP3 hpush)
      refine hF.mono ?_
      clear hF
      rintro e w5 ⟨rfl, rfl⟩
      go_wp2_with fail
      go_ret
      exact ⟨rfl, hkf⟩
    | true =>
      have hY2 := of_decide_eq_true hY
      have he : addE L x = 0 := by unfold addE; rw [if_neg h4, if_neg (by omega)]
      have hm : addM L x = { L with pd := L.pd ++ [x] } := by unfold addM; rw [he, if_pos rfl]
      rw [he, hm, hbl]
      clear hM hY hY2 he hm hk gX hL hLr hvp hfit hbl5 h4 hflen hfew hbl hN
      go_enter Tryz.func11, Tryz.ntmps11
      go_wp2_with fail
      refine hall.mono ?_
      clear hall
      rintro e w1 ⟨v, rfl, hT1, hB1⟩
      have hz := Box.mk (parts_new w1 [x] 9)
      have hb2 := bel_alloc w1 (.cells #[.string x] 9)
      have hT2 := Box.mk ((hT1.base (Nat.zero_le _)).here hb2)
      have hT1l : Box (∀ k, v.ownBlock = some k → w.heap.size ≤ k) := ⟨fun k hk => (hT1.own k hk).1⟩
      obtain ⟨a1, n1, cc1, rfl⟩ : ∃ a n cc, v = .slice a n cc := (by obtain ⟨a1, cc1, e⟩ := hT1.shape; exact ⟨a1, _, cc1, e⟩)
      have hkk : Box (∀ vo w4, PushedT 0 (w1.alloc (.cells #[.string x] 9)) (.slice a1 n1 cc1) (L.lv ++ L.pd ++ [x]) vo w4 → Kept w0 (Pair2 (TLo p b h c D L vl vh vp) X) w4) := ⟨fun vo w4 hp => by
        have hbl : Below w.heap.size w w4 := (hB1.trans (hb2.mono hB1.size)).trans (hp.chg.below (hB1.trans (hb2.mono hB1.size)).size fun k hk => hT1l.out k hk)
        exact tl_here hkB.out hgX.out hbl⟩
      clear hT1 hB1 hb2 hT1l
      go_wp2_with (refine wpList_pushT rfl (.tmp 14) (.tmp 16) rfl 0 _ _ [x] rfl hT2.out (Nat.zero_le _) (some ⟨w1.heap.size, 0, none⟩) 1 1 rfl rfl hz.out hlim.out ?_; intro vo w4 hpush; have hkf := Box.mk (hkk.out _ _ hpush); obtain ⟨a3, n3, cc3, rfl, hP3⟩ : ∃ a n cc, vo = .slice a n cc ∧ PA w4 a n cc (L.lv ++ L.pd ++ [x]) := (by obtain ⟨a, cc, e, hP⟩ := txr_pa hpush.row; exact ⟨a, _, cc, e, hP⟩); have hF := hfit2.out w4 a3 n3 cc3 hP3; clear hP3 hpush)
      refine hF.mono ?_
      clear hF hkk hz hT2
      rintro e w5 ⟨rfl, rfl⟩
      have c5 := hcel.out w4 hkf.out
      have hz := Box.mk (parts_new w4 [x] 9)
      have hk5 := Box.mk (tl_here hkf.out hgX.out (bel_alloc w4 (.cells #[.string x] 9)))
      have hR5 := Box.mk (hrp.out _ hk5.out)
      clear hkf
      go_wp2_with (refine wpList_pushT rfl (.tmp 24) (.tmp 26) rfl 0 _ _ [x] rfl hR5.out (Nat.zero_le _) (some ⟨w4.heap.size, 0, none⟩) 1 1 rfl rfl hz.out hlim2.out ?_; intro vo w6 hpush; obtain ⟨hb6, hk6⟩ := hpu.out _ _ _ hk5.out hpush; have d5 : w6.cell? ⟨bl, 5, none⟩ = some vp := hb6.cell 5; have f5 := hb6.free 5; obtain ⟨a3, n3, cc3, rfl⟩ : ∃ a n cc, vo = .slice a n cc := (by obtain ⟨a, cc, e⟩ := hpush.row.shape; exact ⟨a, _, cc, e⟩); replace hk6 := Box.mk hk6; clear hb6 hpush)
      go_ret
      exact ⟨rfl, hk6⟩
end
end Go.Proofs.YthpfpkikmaiddaaGreatDoor.Tg
