/- Walk of the law TopRejects. -/
import Derived.Test.YthkfefkcjcgfkaaGreatDoorWta
set_option linter.all false
namespace Go.Proofs.YthkfefkcjcgfkaaGreatDoor.Tp
open Go Go.RowKit Go.Proofs.YthkfefkcjcgfkaaGreatDoor
set_option linter.all false

theorem belOf {w0 w w2 : World} (h1 : Below w0.heap.size w0 w) (h2 : Below w.heap.size w w2) : Below w0.heap.size w0 w2 := mono_bel h1 h2 (Nat.le_refl _)
set_option maxHeartbeats 25600000 in
set_option maxRecDepth 100000 in
theorem law_rejects (s : ByteArray) (B : Nat) (w : World) (hNL : Nt.NL B w) (hLd : Ti.Ld B w) (hEv : Ti.ErV B w) (hB : B ≤ w.heap.size) (hs : s.size ≤ 1073741824) :
    Calls Tryz.prog 3 #[.string s] w fun e w' => e = .returned (.bool true) ∧ Below w.heap.size w w' := by
  have gN := Box.mk fun w' (hx : Below w.heap.size w w') => (⟨hNL.here hB hx, by have := hx.size; omega⟩ : Nt.NL B w' ∧ B ≤ w'.heap.size)
  have gL := Box.mk fun w' (hx : Below w.heap.size w w') => (hLd.here hx hB : Ti.Ld B w')
  have gE := Box.mk fun w' (hx : Below w.heap.size w w') => (hEv.here hB hx : Ti.ErV B w')
  have ess : (s.toList == s.toList) = true := by simp
  have h1 := Nt.parse_any ⟨#[]⟩ B w hNL hB (by decide)
  rw [Nt.prV_none Nt.pc_nil] at h1
  clear hNL hLd hEv hB
  go_enter Tryz.func3, Tryz.ntmps3
  go_wp2_with fail
  refine h1.mono ?_
  clear h1
  rintro e w1 ⟨rfl, hb1⟩
  replace hb1 := belOf hb1 (bel_alloc w1 (.cells #[.string ⟨#[]⟩, .int .i64 0, .string ⟨#[]⟩] 23))
  have h1 := Nt.read_any s B _ (gN.out _ hb1).1 (gN.out _ hb1).2 hs
  replace hb1 := Box.mk hb1
  unfold Nt.RdI at h1
  cases hn : Nt.rdN s.data.toList with
  | none =>
    obtain ⟨e1, e2, e3⟩ := Nt.rd_none hn
    rw [e1, e2, e3] at h1
    clear e1 e2 e3 hn
    go_wp2_with fail
    refine h1.mono ?_
    clear h1
    rintro e w2 ⟨v, rfl, hR⟩
    have hR2 := hR.sigs
    obtain ⟨a, c, rfl⟩ := hR.row.shape
    simp only [List.length_nil] at hR2 ⊢
    have hb2 := belOf hb1.out hR.bel
    have hX := bel_alloc w2 (.cells #[.string ⟨#[]⟩, .slice a 0 c] 29)
    replace hb2 := belOf hb2 hX
    have h1 := Nt.format_any ⟨#[]⟩ a 0 c [] B _ (gN.out _ hb2).1 (gN.out _ hb2).2 (by decide) (hR2.here hX) rfl (by decide) (fun x hx => by cases hx)
    unfold Nt.fmV at h1
    obtain ⟨F, hF⟩ : ∃ F, Nt.fmtN ((⟨#[]⟩ : ByteArray), ([] : List (ByteArray × ByteArray))) = F := ⟨_, rfl⟩
    obtain ⟨FE, hFE⟩ : ∃ F, Nt.fmtE ((⟨#[]⟩ : ByteArray), ([] : List (ByteArray × ByteArray))) = F := ⟨_, rfl⟩
    rw [hF, hFE] at h1
    clear hF hFE
    replace hb2 := Box.mk hb2
    clear hR hR2 hX hb1
    go_wp2_with fail
    refine h1.mono ?_
    clear h1
    rintro e w3 ⟨rfl, hb3⟩
    have hb4 := belOf hb2.out hb3
    have h1 := Nt.parse_any s B w3 (gN.out w3 hb4).1 (gN.out w3 hb4).2 hs
    replace hb4 := Box.mk hb4
    clear hb2 hb3
    cases hp : Nt.pCk s.data.toList with
    | none =>
      rw [Nt.prV_none hp] at h1
      clear hp
      go_wp2_with fail
      refine h1.mono ?_
      clear h1
      rintro e w4 ⟨rfl, hb5⟩
      replace hb5 := belOf (belOf hb4.out hb5) (bel_alloc w4 (.cells #[.string ⟨#[]⟩, .int .i64 0, .string ⟨#[]⟩] 23))
      have h1 := Nt.text_any ⟨⟨#[]⟩, 0, ⟨#[]⟩⟩ B _ (gN.out _ hb5).1 (gN.out _ hb5).2 (by decide) (by decide)
      unfold Nt.txtV Nt.ckV at h1
      dsimp only at h1
      obtain ⟨Z, hZ⟩ : ∃ F, Nt.txtS ⟨(⟨#[]⟩ : ByteArray), 0, ⟨#[]⟩⟩ = F := ⟨_, rfl⟩
      obtain ⟨ZE, hZE⟩ : ∃ F, Nt.txtE ⟨(⟨#[]⟩ : ByteArray), 0, ⟨#[]⟩⟩ = F := ⟨_, rfl⟩
      rw [hZ, hZE] at h1
      clear hZ hZE
      replace hb5 := Box.mk hb5
      clear hb4
      go_wp2_with fail
      refine h1.mono ?_
      clear h1
      rintro e w5 ⟨rfl, hb6⟩
      have hb7 := belOf hb5.out hb6
      have h1 := Bi.read_any s w5 (gL.out w5 hb7).kis
      replace hb7 := Box.mk hb7
      clear hb5 hb6
      cases hq : Bi.acc (Bi.hdR s.data.toList) (Bi.kP (Bi.hdR s.data.toList)) with
      | false =>
        replace h1 := h1.mono fun e w' h => h.2 hq
        unfold Bi.BilIs at h1
        clear hq
        go_wp2_with fail
        refine h1.mono ?_
        clear h1
        rintro e w6 ⟨y, rfl, hT6, hb8⟩
        obtain ⟨a6, k6, rfl⟩ := hT6.shape
        simp only [List.length_nil] at hT6 ⊢
        have hX6 := bel_alloc w6 (.cells #[.int .i64 0, .int .i64 0, .int .i64 0, .string ⟨#[]⟩, .string ⟨#[]⟩, .slice a6 0 k6] 37)
        replace hb8 := belOf (belOf hb7.out hb8) hX6
        have h1 := Bi.bbytes_any 0 0 0 ⟨#[]⟩ ⟨#[]⟩ a6 0 k6 [] _ (Bi.txPA (hT6.here hX6) rfl) (gL.out _ hb8).kis
        obtain ⟨U, hU⟩ : ∃ F, Bi.bytT 0 0 0 ⟨#[]⟩ ⟨#[]⟩ [] = F := ⟨_, rfl⟩
        obtain ⟨UE, hUE⟩ : ∃ F, Bi.chkI 0 0 0 ⟨#[]⟩ ⟨#[]⟩ [] = F := ⟨_, rfl⟩
        rw [hU, hUE] at h1
        clear hU hUE
        replace hb8 := Box.mk hb8
        clear hb7 hT6 hX6
        go_wp2_with fail
        refine h1.mono ?_
        clear h1
        rintro e w7 ⟨rfl, hb9⟩
        have hb10 := belOf hb8.out hb9
        have h1 := Me.decode_any s B w7 (gN.out w7 hb10).1 (gN.out w7 hb10).2
        unfold Me.DecS at h1
        replace hb10 := Box.mk hb10
        clear hb8 hb9
        rcases Me.me_case s with ⟨D, hm, hen⟩ | hm
        · have hok : Me.DcOk D := by have := Me.dec_ok (l := s.data.toList); rw [hm] at this; exact this
          rw [hm] at h1
          dsimp only at h1
          clear hm
          replace hen := Box.mk hen
          replace hok := Box.mk hok
          go_wp2_with fail
          refine h1.mono ?_
          clear h1
          rintro e w8 ⟨⟨za, rfl, hra⟩, hb11⟩
          obtain ⟨b15, hb15, hZ15, hT15⟩ := @Me.store_var w8 D za
          go_wp2_with (refine Me.wpList_store_doc rfl (.tmp 15) (.tmp 134) rfl b15 D za (by first | rfl | (rw [← hb15]; rfl)) rfl hZ15.out rfl ?_; intro w9 hw9; obtain ⟨hM1, hM2⟩ := hT15.out w9 hw9; replace hM1 := Box.mk hM1; replace hM2 := Box.mk hM2; clear hw9 hT15 hZ15; refine Box.out ?_)
          obtain ⟨x134, hx134⟩ : ∃ x, Me.docV D za = x := ⟨_, rfl⟩
          rw [hx134]
          clear hx134
          refine ⟨?_⟩
          have hb12 := belOf (belOf hb10.out hb11) hM1.out
          have h1 := Me.encode_any D za B w9 (gN.out w9 hb12).1 (gN.out w9 hb12).2 (hra.below hM1.out).at_ hok.out
          rw [hen.out] at h1
          replace hb12 := Box.mk hb12
          clear hb10 hb11 hra hen hok

          go_wp2_with ((with_reducible show wpList _ _ _ (⟨some 155, _, _, _, _, _⟩ :: _) _ _); refine Box.out ?_)
          refine ⟨?_⟩
          refine Me.wpList_loadG (by rfl) 46 (.tmp 15) rfl b15 0 rfl (Me.docL D za) _ (Me.blk_range hM2.out) Tryz.underlying46 rfl (Me.doc_size _ _) ?_
          go_wp2_with fail
          refine h1.mono ?_
          clear h1
          rintro e w10 ⟨rfl, hb13⟩
          have hb14 := belOf hb12.out hb13
          have h1 := Ti.pparse_any s B w10 (gL.out w10 hb14) (gE.out w10 hb14) (gN.out w10 hb14).2 (by omega)
          replace hb14 := Box.mk hb14
          clear hb12 hb13 hb15 hM1 hM2
          cases hp6 : Ti.parseD s.data.toList with
          | none =>
            have hv : Ti.parV s.data.toList = .tuple #[.agg #[.int .i64 0, .int .i64 0, .int .i64 0], .int .i64 3] := by unfold Ti.parV Ti.tv; rw [hp6]
            rw [hv] at h1

            clear hv hp6
            go_wp2_with fail
            refine h1.mono ?_
            clear h1
            rintro e w11 ⟨rfl, hb16⟩
            replace hb16 := belOf (belOf hb14.out hb16) (bel_alloc w11 (.cells #[.int .i64 0, .int .i64 0, .int .i64 0] 51))
            clear hb14
            replace hb16 := Box.mk hb16
            go_wp2_with fail
            go_ret
            exact ⟨by first | rfl | simp, by first | exact hb16.out | (refine belOf hb16.out ?_; assumption)⟩
          | some v =>
            obtain ⟨TL, TI, TW⟩ := v
            have hv : Ti.parV s.data.toList = .tuple #[.agg #[.int .i64 TL, .int .i64 TI, .int .i64 TW], .int .i64 0] := by unfold Ti.parV Ti.tv; rw [hp6]
            rw [hv] at h1
            have hpt := Ti.pa_told hp6
            clear hv hp6
            go_wp2_with fail
            refine h1.mono ?_
            clear h1
            rintro e w11 ⟨rfl, hb16⟩
            replace hb16 := belOf (belOf hb14.out hb16) (bel_alloc w11 (.cells #[.int .i64 TL, .int .i64 TI, .int .i64 TW] 51))
            clear hb14
            have h1 := Ti.path_any TL TI TW B _ (gL.out _ hb16) (gN.out _ hb16).2
            unfold Ti.tv at h1
            rw [hpt] at h1
            clear hpt
            replace hb16 := Box.mk hb16
            go_wp2_with fail
            refine h1.mono ?_
            clear h1
            rintro e w12 ⟨rfl, hb17⟩
            replace hb16 := belOf hb16.out hb17
            clear hb17
            replace hb16 := Box.mk hb16
            go_wp2_with fail
            go_ret
            exact ⟨by first | rfl | simp, by first | exact hb16.out | (refine belOf hb16.out ?_; assumption)⟩
        · have hok : Me.DcOk Me.dc0 := by have := Me.dec_ok (l := s.data.toList); rw [hm] at this; exact this
          have hen : Me.encR Me.dc0 = .tuple #[.string ⟨#[]⟩, .int .i64 1] := by unfold Me.encR Me.encV; rw [show Me.chkD Me.dc0 = false from by decide]; rfl
          rw [hm] at h1
          dsimp only at h1
          clear hm
          replace hen := Box.mk hen
          replace hok := Box.mk hok
          go_wp2_with fail
          refine h1.mono ?_
          clear h1
          rintro e w8 ⟨⟨za, rfl, hra⟩, hb11⟩
          obtain ⟨b15, hb15, hZ15, hT15⟩ := @Me.store_var w8 Me.dc0 za
          go_wp2_with (refine Me.wpList_store_doc rfl (.tmp 15) (.tmp 134) rfl b15 Me.dc0 za (by first | rfl | (rw [← hb15]; rfl)) rfl hZ15.out rfl ?_; intro w9 hw9; obtain ⟨hM1, hM2⟩ := hT15.out w9 hw9; replace hM1 := Box.mk hM1; replace hM2 := Box.mk hM2; clear hw9 hT15 hZ15; refine Box.out ?_)
          obtain ⟨x134, hx134⟩ : ∃ x, Me.docV Me.dc0 za = x := ⟨_, rfl⟩
          rw [hx134]
          clear hx134
          refine ⟨?_⟩
          have hb12 := belOf (belOf hb10.out hb11) hM1.out
          have h1 := Me.encode_any Me.dc0 za B w9 (gN.out w9 hb12).1 (gN.out w9 hb12).2 (hra.below hM1.out).at_ hok.out
          rw [hen.out] at h1
          replace hb12 := Box.mk hb12
          clear hb10 hb11 hra hen hok
          have r0 : w9.cell? ⟨b15, 0, none⟩ = some (.int .i64 0) := Pk.Blk.cell hM2.out 0
          have r1 : w9.cell? ⟨b15, 1, none⟩ = some (.int .i64 0) := Pk.Blk.cell hM2.out 1
          have r15 : w9.cell? ⟨b15, 15, none⟩ = some (.slice za.al.1 0 za.al.2) := Pk.Blk.cell hM2.out 15
          go_wp2_with ((with_reducible show wpList _ _ _ (⟨some 155, _, _, _, _, _⟩ :: _) _ _); refine Box.out ?_)
          refine ⟨?_⟩
          refine Me.wpList_loadG (by rfl) 46 (.tmp 15) rfl b15 0 rfl (Me.docL Me.dc0 za) _ (Me.blk_range hM2.out) Tryz.underlying46 rfl (Me.doc_size _ _) ?_
          go_wp2_with fail
          refine h1.mono ?_
          clear h1
          rintro e w10 ⟨rfl, hb13⟩
          have hb14 := belOf hb12.out hb13
          have h1 := Ti.pparse_any s B w10 (gL.out w10 hb14) (gE.out w10 hb14) (gN.out w10 hb14).2 (by omega)
          replace hb14 := Box.mk hb14
          clear hb12 hb13 hb15 hM1 hM2 r0 r1 r15
          cases hp6 : Ti.parseD s.data.toList with
          | none =>
            have hv : Ti.parV s.data.toList = .tuple #[.agg #[.int .i64 0, .int .i64 0, .int .i64 0], .int .i64 3] := by unfold Ti.parV Ti.tv; rw [hp6]
            rw [hv] at h1

            clear hv hp6
            go_wp2_with fail
            refine h1.mono ?_
            clear h1
            rintro e w11 ⟨rfl, hb16⟩
            replace hb16 := belOf (belOf hb14.out hb16) (bel_alloc w11 (.cells #[.int .i64 0, .int .i64 0, .int .i64 0] 51))
            clear hb14
            replace hb16 := Box.mk hb16
            go_wp2_with fail
            go_ret
            exact ⟨by first | rfl | simp, by first | exact hb16.out | (refine belOf hb16.out ?_; assumption)⟩
          | some v =>
            obtain ⟨TL, TI, TW⟩ := v
            have hv : Ti.parV s.data.toList = .tuple #[.agg #[.int .i64 TL, .int .i64 TI, .int .i64 TW], .int .i64 0] := by unfold Ti.parV Ti.tv; rw [hp6]
            rw [hv] at h1
            have hpt := Ti.pa_told hp6
            clear hv hp6
            go_wp2_with fail
            refine h1.mono ?_
            clear h1
            rintro e w11 ⟨rfl, hb16⟩
            replace hb16 := belOf (belOf hb14.out hb16) (bel_alloc w11 (.cells #[.int .i64 TL, .int .i64 TI, .int .i64 TW] 51))
            clear hb14
            have h1 := Ti.path_any TL TI TW B _ (gL.out _ hb16) (gN.out _ hb16).2
            unfold Ti.tv at h1
            rw [hpt] at h1
            clear hpt
            replace hb16 := Box.mk hb16
            go_wp2_with fail
            refine h1.mono ?_
            clear h1
            rintro e w12 ⟨rfl, hb17⟩
            replace hb16 := belOf hb16.out hb17
            clear hb17
            replace hb16 := Box.mk hb16
            go_wp2_with fail
            go_ret
            exact ⟨by first | rfl | simp, by first | exact hb16.out | (refine belOf hb16.out ?_; assumption)⟩
      | true =>
        obtain ⟨k1, k2⟩ := Bi.acc_told _ _ hq
        replace h1 := h1.mono fun e w' h => h.1 hq
        unfold Bi.BilIs at h1
        obtain ⟨k3, k4⟩ := Bi.bytT_yes k1
        rw [k2] at k3
        obtain ⟨d, hd⟩ : ∃ d, Bi.hdR s.data.toList = d := ⟨_, rfl⟩
        rw [hd] at h1 k2 k4
        obtain ⟨L, hL⟩ : ∃ L, (Bi.hsR (Bi.kP d) d.l d.e).1 = L := ⟨_, rfl⟩
        rw [hL] at h1 k2 k4
        obtain ⟨V, S, C, H, T, l0, e0⟩ := d
        dsimp only at h1 k2 k4
        clear hq k1 k3 hd hL
        go_wp2_with fail
        refine h1.mono ?_
        clear h1
        rintro e w6 ⟨y, rfl, hT6, hb8⟩
        obtain ⟨a6, k6, rfl⟩ := hT6.shape
        obtain ⟨n6, hn6⟩ : ∃ n, L.length = n := ⟨_, rfl⟩
        rw [hn6] at hT6 ⊢
        have hX6 := bel_alloc w6 (.cells #[.int .i64 V, .int .i64 S, .int .i64 C, .string H, .string T, .slice a6 n6 k6] 37)
        replace hb8 := belOf (belOf hb7.out hb8) hX6
        have h1 := Bi.bbytes_any V S C H T a6 n6 k6 L _ (Bi.txPA (hT6.here hX6) hn6) (gL.out _ hb8).kis
        rw [k2, k4, show (⟨s.data.toList.toArray⟩ : ByteArray) = s from rfl] at h1
        clear k2 k4
        replace hb8 := Box.mk hb8
        clear hb7 hT6 hX6
        go_wp2_with fail
        refine h1.mono ?_
        clear h1
        rintro e w7 ⟨rfl, hb9⟩
        have hb10 := belOf hb8.out hb9
        have h1 := Me.decode_any s B w7 (gN.out w7 hb10).1 (gN.out w7 hb10).2
        unfold Me.DecS at h1
        replace hb10 := Box.mk hb10
        clear hb8 hb9
        rcases Me.me_case s with ⟨D, hm, hen⟩ | hm
        · have hok : Me.DcOk D := by have := Me.dec_ok (l := s.data.toList); rw [hm] at this; exact this
          rw [hm] at h1
          dsimp only at h1
          clear hm
          replace hen := Box.mk hen
          replace hok := Box.mk hok
          go_wp2_with fail
          refine h1.mono ?_
          clear h1
          rintro e w8 ⟨⟨za, rfl, hra⟩, hb11⟩
          obtain ⟨b15, hb15, hZ15, hT15⟩ := @Me.store_var w8 D za
          go_wp2_with (refine Me.wpList_store_doc rfl (.tmp 15) (.tmp 134) rfl b15 D za (by first | rfl | (rw [← hb15]; rfl)) rfl hZ15.out rfl ?_; intro w9 hw9; obtain ⟨hM1, hM2⟩ := hT15.out w9 hw9; replace hM1 := Box.mk hM1; replace hM2 := Box.mk hM2; clear hw9 hT15 hZ15; refine Box.out ?_)
          obtain ⟨x134, hx134⟩ : ∃ x, Me.docV D za = x := ⟨_, rfl⟩
          rw [hx134]
          clear hx134
          refine ⟨?_⟩
          have hb12 := belOf (belOf hb10.out hb11) hM1.out
          have h1 := Me.encode_any D za B w9 (gN.out w9 hb12).1 (gN.out w9 hb12).2 (hra.below hM1.out).at_ hok.out
          rw [hen.out] at h1
          replace hb12 := Box.mk hb12
          clear hb10 hb11 hra hen hok

          go_wp2_with ((with_reducible show wpList _ _ _ (⟨some 155, _, _, _, _, _⟩ :: _) _ _); refine Box.out ?_)
          refine ⟨?_⟩
          refine Me.wpList_loadG (by rfl) 46 (.tmp 15) rfl b15 0 rfl (Me.docL D za) _ (Me.blk_range hM2.out) Tryz.underlying46 rfl (Me.doc_size _ _) ?_
          go_wp2_with fail
          refine h1.mono ?_
          clear h1
          rintro e w10 ⟨rfl, hb13⟩
          have hb14 := belOf hb12.out hb13
          have h1 := Ti.pparse_any s B w10 (gL.out w10 hb14) (gE.out w10 hb14) (gN.out w10 hb14).2 (by omega)
          replace hb14 := Box.mk hb14
          clear hb12 hb13 hb15 hM1 hM2
          cases hp6 : Ti.parseD s.data.toList with
          | none =>
            have hv : Ti.parV s.data.toList = .tuple #[.agg #[.int .i64 0, .int .i64 0, .int .i64 0], .int .i64 3] := by unfold Ti.parV Ti.tv; rw [hp6]
            rw [hv] at h1

            clear hv hp6
            go_wp2_with fail
            refine h1.mono ?_
            clear h1
            rintro e w11 ⟨rfl, hb16⟩
            replace hb16 := belOf (belOf hb14.out hb16) (bel_alloc w11 (.cells #[.int .i64 0, .int .i64 0, .int .i64 0] 51))
            clear hb14
            replace hb16 := Box.mk hb16
            go_wp2_with fail
            go_ret
            exact ⟨by first | rfl | simp, by first | exact hb16.out | (refine belOf hb16.out ?_; assumption)⟩
          | some v =>
            obtain ⟨TL, TI, TW⟩ := v
            have hv : Ti.parV s.data.toList = .tuple #[.agg #[.int .i64 TL, .int .i64 TI, .int .i64 TW], .int .i64 0] := by unfold Ti.parV Ti.tv; rw [hp6]
            rw [hv] at h1
            have hpt := Ti.pa_told hp6
            clear hv hp6
            go_wp2_with fail
            refine h1.mono ?_
            clear h1
            rintro e w11 ⟨rfl, hb16⟩
            replace hb16 := belOf (belOf hb14.out hb16) (bel_alloc w11 (.cells #[.int .i64 TL, .int .i64 TI, .int .i64 TW] 51))
            clear hb14
            have h1 := Ti.path_any TL TI TW B _ (gL.out _ hb16) (gN.out _ hb16).2
            unfold Ti.tv at h1
            rw [hpt] at h1
            clear hpt
            replace hb16 := Box.mk hb16
            go_wp2_with fail
            refine h1.mono ?_
            clear h1
            rintro e w12 ⟨rfl, hb17⟩
            replace hb16 := belOf hb16.out hb17
            clear hb17
            replace hb16 := Box.mk hb16
            go_wp2_with fail
            go_ret
            exact ⟨by first | rfl | simp, by first | exact hb16.out | (refine belOf hb16.out ?_; assumption)⟩
        · have hok : Me.DcOk Me.dc0 := by have := Me.dec_ok (l := s.data.toList); rw [hm] at this; exact this
          have hen : Me.encR Me.dc0 = .tuple #[.string ⟨#[]⟩, .int .i64 1] := by unfold Me.encR Me.encV; rw [show Me.chkD Me.dc0 = false from by decide]; rfl
          rw [hm] at h1
          dsimp only at h1
          clear hm
          replace hen := Box.mk hen
          replace hok := Box.mk hok
          go_wp2_with fail
          refine h1.mono ?_
          clear h1
          rintro e w8 ⟨⟨za, rfl, hra⟩, hb11⟩
          obtain ⟨b15, hb15, hZ15, hT15⟩ := @Me.store_var w8 Me.dc0 za
          go_wp2_with (refine Me.wpList_store_doc rfl (.tmp 15) (.tmp 134) rfl b15 Me.dc0 za (by first | rfl | (rw [← hb15]; rfl)) rfl hZ15.out rfl ?_; intro w9 hw9; obtain ⟨hM1, hM2⟩ := hT15.out w9 hw9; replace hM1 := Box.mk hM1; replace hM2 := Box.mk hM2; clear hw9 hT15 hZ15; refine Box.out ?_)
          obtain ⟨x134, hx134⟩ : ∃ x, Me.docV Me.dc0 za = x := ⟨_, rfl⟩
          rw [hx134]
          clear hx134
          refine ⟨?_⟩
          have hb12 := belOf (belOf hb10.out hb11) hM1.out
          have h1 := Me.encode_any Me.dc0 za B w9 (gN.out w9 hb12).1 (gN.out w9 hb12).2 (hra.below hM1.out).at_ hok.out
          rw [hen.out] at h1
          replace hb12 := Box.mk hb12
          clear hb10 hb11 hra hen hok
          have r0 : w9.cell? ⟨b15, 0, none⟩ = some (.int .i64 0) := Pk.Blk.cell hM2.out 0
          have r1 : w9.cell? ⟨b15, 1, none⟩ = some (.int .i64 0) := Pk.Blk.cell hM2.out 1
          have r15 : w9.cell? ⟨b15, 15, none⟩ = some (.slice za.al.1 0 za.al.2) := Pk.Blk.cell hM2.out 15
          go_wp2_with ((with_reducible show wpList _ _ _ (⟨some 155, _, _, _, _, _⟩ :: _) _ _); refine Box.out ?_)
          refine ⟨?_⟩
          refine Me.wpList_loadG (by rfl) 46 (.tmp 15) rfl b15 0 rfl (Me.docL Me.dc0 za) _ (Me.blk_range hM2.out) Tryz.underlying46 rfl (Me.doc_size _ _) ?_
          go_wp2_with fail
          refine h1.mono ?_
          clear h1
          rintro e w10 ⟨rfl, hb13⟩
          have hb14 := belOf hb12.out hb13
          have h1 := Ti.pparse_any s B w10 (gL.out w10 hb14) (gE.out w10 hb14) (gN.out w10 hb14).2 (by omega)
          replace hb14 := Box.mk hb14
          clear hb12 hb13 hb15 hM1 hM2 r0 r1 r15
          cases hp6 : Ti.parseD s.data.toList with
          | none =>
            have hv : Ti.parV s.data.toList = .tuple #[.agg #[.int .i64 0, .int .i64 0, .int .i64 0], .int .i64 3] := by unfold Ti.parV Ti.tv; rw [hp6]
            rw [hv] at h1

            clear hv hp6
            go_wp2_with fail
            refine h1.mono ?_
            clear h1
            rintro e w11 ⟨rfl, hb16⟩
            replace hb16 := belOf (belOf hb14.out hb16) (bel_alloc w11 (.cells #[.int .i64 0, .int .i64 0, .int .i64 0] 51))
            clear hb14
            replace hb16 := Box.mk hb16
            go_wp2_with fail
            go_ret
            exact ⟨by first | rfl | simp, by first | exact hb16.out | (refine belOf hb16.out ?_; assumption)⟩
          | some v =>
            obtain ⟨TL, TI, TW⟩ := v
            have hv : Ti.parV s.data.toList = .tuple #[.agg #[.int .i64 TL, .int .i64 TI, .int .i64 TW], .int .i64 0] := by unfold Ti.parV Ti.tv; rw [hp6]
            rw [hv] at h1
            have hpt := Ti.pa_told hp6
            clear hv hp6
            go_wp2_with fail
            refine h1.mono ?_
            clear h1
            rintro e w11 ⟨rfl, hb16⟩
            replace hb16 := belOf (belOf hb14.out hb16) (bel_alloc w11 (.cells #[.int .i64 TL, .int .i64 TI, .int .i64 TW] 51))
            clear hb14
            have h1 := Ti.path_any TL TI TW B _ (gL.out _ hb16) (gN.out _ hb16).2
            unfold Ti.tv at h1
            rw [hpt] at h1
            clear hpt
            replace hb16 := Box.mk hb16
            go_wp2_with fail
            refine h1.mono ?_
            clear h1
            rintro e w12 ⟨rfl, hb17⟩
            replace hb16 := belOf hb16.out hb17
            clear hb17
            replace hb16 := Box.mk hb16
            go_wp2_with fail
            go_ret
            exact ⟨by first | rfl | simp, by first | exact hb16.out | (refine belOf hb16.out ?_; assumption)⟩
    | some ck =>
      rw [Nt.prV_some hp] at h1
      obtain ⟨hf, hz1, hz2⟩ := Nt.pc_told hp
      obtain ⟨co, cn, cr⟩ := ck
      dsimp only at h1 hf hz1 hz2
      clear hp
      go_wp2_with fail
      refine h1.mono ?_
      clear h1
      rintro e w4 ⟨rfl, hb5⟩
      replace hb5 := belOf (belOf hb4.out hb5) (bel_alloc w4 (.cells #[.string co, .int .i64 cn, .string cr] 23))
      have h1 := Nt.text_any ⟨co, cn, cr⟩ B _ (gN.out _ hb5).1 (gN.out _ hb5).2 (by show co.size ≤ _; omega) (by show cr.size ≤ _; omega)
      rw [hf] at h1
      unfold Nt.ckV at h1
      dsimp only at h1
      clear hf hz1 hz2
      replace hb5 := Box.mk hb5
      clear hb4
      go_wp2_with fail
      refine h1.mono ?_
      clear h1
      rintro e w5 ⟨rfl, hb6⟩
      have hb7 := belOf hb5.out hb6
      have h1 := Bi.read_any s w5 (gL.out w5 hb7).kis
      replace hb7 := Box.mk hb7
      clear hb5 hb6
      cases hq : Bi.acc (Bi.hdR s.data.toList) (Bi.kP (Bi.hdR s.data.toList)) with
      | false =>
        replace h1 := h1.mono fun e w' h => h.2 hq
        unfold Bi.BilIs at h1
        clear hq
        go_wp2_with fail
        refine h1.mono ?_
        clear h1
        rintro e w6 ⟨y, rfl, hT6, hb8⟩
        obtain ⟨a6, k6, rfl⟩ := hT6.shape
        simp only [List.length_nil] at hT6 ⊢
        have hX6 := bel_alloc w6 (.cells #[.int .i64 0, .int .i64 0, .int .i64 0, .string ⟨#[]⟩, .string ⟨#[]⟩, .slice a6 0 k6] 37)
        replace hb8 := belOf (belOf hb7.out hb8) hX6
        have h1 := Bi.bbytes_any 0 0 0 ⟨#[]⟩ ⟨#[]⟩ a6 0 k6 [] _ (Bi.txPA (hT6.here hX6) rfl) (gL.out _ hb8).kis
        obtain ⟨U, hU⟩ : ∃ F, Bi.bytT 0 0 0 ⟨#[]⟩ ⟨#[]⟩ [] = F := ⟨_, rfl⟩
        obtain ⟨UE, hUE⟩ : ∃ F, Bi.chkI 0 0 0 ⟨#[]⟩ ⟨#[]⟩ [] = F := ⟨_, rfl⟩
        rw [hU, hUE] at h1
        clear hU hUE
        replace hb8 := Box.mk hb8
        clear hb7 hT6 hX6
        go_wp2_with fail
        refine h1.mono ?_
        clear h1
        rintro e w7 ⟨rfl, hb9⟩
        have hb10 := belOf hb8.out hb9
        have h1 := Me.decode_any s B w7 (gN.out w7 hb10).1 (gN.out w7 hb10).2
        unfold Me.DecS at h1
        replace hb10 := Box.mk hb10
        clear hb8 hb9
        rcases Me.me_case s with ⟨D, hm, hen⟩ | hm
        · have hok : Me.DcOk D := by have := Me.dec_ok (l := s.data.toList); rw [hm] at this; exact this
          rw [hm] at h1
          dsimp only at h1
          clear hm
          replace hen := Box.mk hen
          replace hok := Box.mk hok
          go_wp2_with fail
          refine h1.mono ?_
          clear h1
          rintro e w8 ⟨⟨za, rfl, hra⟩, hb11⟩
          obtain ⟨b15, hb15, hZ15, hT15⟩ := @Me.store_var w8 D za
          go_wp2_with (refine Me.wpList_store_doc rfl (.tmp 15) (.tmp 134) rfl b15 D za (by first | rfl | (rw [← hb15]; rfl)) rfl hZ15.out rfl ?_; intro w9 hw9; obtain ⟨hM1, hM2⟩ := hT15.out w9 hw9; replace hM1 := Box.mk hM1; replace hM2 := Box.mk hM2; clear hw9 hT15 hZ15; refine Box.out ?_)
          obtain ⟨x134, hx134⟩ : ∃ x, Me.docV D za = x := ⟨_, rfl⟩
          rw [hx134]
          clear hx134
          refine ⟨?_⟩
          have hb12 := belOf (belOf hb10.out hb11) hM1.out
          have h1 := Me.encode_any D za B w9 (gN.out w9 hb12).1 (gN.out w9 hb12).2 (hra.below hM1.out).at_ hok.out
          rw [hen.out] at h1
          replace hb12 := Box.mk hb12
          clear hb10 hb11 hra hen hok

          go_wp2_with ((with_reducible show wpList _ _ _ (⟨some 155, _, _, _, _, _⟩ :: _) _ _); refine Box.out ?_)
          refine ⟨?_⟩
          refine Me.wpList_loadG (by rfl) 46 (.tmp 15) rfl b15 0 rfl (Me.docL D za) _ (Me.blk_range hM2.out) Tryz.underlying46 rfl (Me.doc_size _ _) ?_
          go_wp2_with fail
          refine h1.mono ?_
          clear h1
          rintro e w10 ⟨rfl, hb13⟩
          have hb14 := belOf hb12.out hb13
          have h1 := Ti.pparse_any s B w10 (gL.out w10 hb14) (gE.out w10 hb14) (gN.out w10 hb14).2 (by omega)
          replace hb14 := Box.mk hb14
          clear hb12 hb13 hb15 hM1 hM2
          cases hp6 : Ti.parseD s.data.toList with
          | none =>
            have hv : Ti.parV s.data.toList = .tuple #[.agg #[.int .i64 0, .int .i64 0, .int .i64 0], .int .i64 3] := by unfold Ti.parV Ti.tv; rw [hp6]
            rw [hv] at h1

            clear hv hp6
            go_wp2_with fail
            refine h1.mono ?_
            clear h1
            rintro e w11 ⟨rfl, hb16⟩
            replace hb16 := belOf (belOf hb14.out hb16) (bel_alloc w11 (.cells #[.int .i64 0, .int .i64 0, .int .i64 0] 51))
            clear hb14
            replace hb16 := Box.mk hb16
            go_wp2_with fail
            go_ret
            exact ⟨by first | rfl | simp, by first | exact hb16.out | (refine belOf hb16.out ?_; assumption)⟩
          | some v =>
            obtain ⟨TL, TI, TW⟩ := v
            have hv : Ti.parV s.data.toList = .tuple #[.agg #[.int .i64 TL, .int .i64 TI, .int .i64 TW], .int .i64 0] := by unfold Ti.parV Ti.tv; rw [hp6]
            rw [hv] at h1
            have hpt := Ti.pa_told hp6
            clear hv hp6
            go_wp2_with fail
            refine h1.mono ?_
            clear h1
            rintro e w11 ⟨rfl, hb16⟩
            replace hb16 := belOf (belOf hb14.out hb16) (bel_alloc w11 (.cells #[.int .i64 TL, .int .i64 TI, .int .i64 TW] 51))
            clear hb14
            have h1 := Ti.path_any TL TI TW B _ (gL.out _ hb16) (gN.out _ hb16).2
            unfold Ti.tv at h1
            rw [hpt] at h1
            clear hpt
            replace hb16 := Box.mk hb16
            go_wp2_with fail
            refine h1.mono ?_
            clear h1
            rintro e w12 ⟨rfl, hb17⟩
            replace hb16 := belOf hb16.out hb17
            clear hb17
            replace hb16 := Box.mk hb16
            go_wp2_with fail
            go_ret
            exact ⟨by first | rfl | simp, by first | exact hb16.out | (refine belOf hb16.out ?_; assumption)⟩
        · have hok : Me.DcOk Me.dc0 := by have := Me.dec_ok (l := s.data.toList); rw [hm] at this; exact this
          have hen : Me.encR Me.dc0 = .tuple #[.string ⟨#[]⟩, .int .i64 1] := by unfold Me.encR Me.encV; rw [show Me.chkD Me.dc0 = false from by decide]; rfl
          rw [hm] at h1
          dsimp only at h1
          clear hm
          replace hen := Box.mk hen
          replace hok := Box.mk hok
          go_wp2_with fail
          refine h1.mono ?_
          clear h1
          rintro e w8 ⟨⟨za, rfl, hra⟩, hb11⟩
          obtain ⟨b15, hb15, hZ15, hT15⟩ := @Me.store_var w8 Me.dc0 za
          go_wp2_with (refine Me.wpList_store_doc rfl (.tmp 15) (.tmp 134) rfl b15 Me.dc0 za (by first | rfl | (rw [← hb15]; rfl)) rfl hZ15.out rfl ?_; intro w9 hw9; obtain ⟨hM1, hM2⟩ := hT15.out w9 hw9; replace hM1 := Box.mk hM1; replace hM2 := Box.mk hM2; clear hw9 hT15 hZ15; refine Box.out ?_)
          obtain ⟨x134, hx134⟩ : ∃ x, Me.docV Me.dc0 za = x := ⟨_, rfl⟩
          rw [hx134]
          clear hx134
          refine ⟨?_⟩
          have hb12 := belOf (belOf hb10.out hb11) hM1.out
          have h1 := Me.encode_any Me.dc0 za B w9 (gN.out w9 hb12).1 (gN.out w9 hb12).2 (hra.below hM1.out).at_ hok.out
          rw [hen.out] at h1
          replace hb12 := Box.mk hb12
          clear hb10 hb11 hra hen hok
          have r0 : w9.cell? ⟨b15, 0, none⟩ = some (.int .i64 0) := Pk.Blk.cell hM2.out 0
          have r1 : w9.cell? ⟨b15, 1, none⟩ = some (.int .i64 0) := Pk.Blk.cell hM2.out 1
          have r15 : w9.cell? ⟨b15, 15, none⟩ = some (.slice za.al.1 0 za.al.2) := Pk.Blk.cell hM2.out 15
          go_wp2_with ((with_reducible show wpList _ _ _ (⟨some 155, _, _, _, _, _⟩ :: _) _ _); refine Box.out ?_)
          refine ⟨?_⟩
          refine Me.wpList_loadG (by rfl) 46 (.tmp 15) rfl b15 0 rfl (Me.docL Me.dc0 za) _ (Me.blk_range hM2.out) Tryz.underlying46 rfl (Me.doc_size _ _) ?_
          go_wp2_with fail
          refine h1.mono ?_
          clear h1
          rintro e w10 ⟨rfl, hb13⟩
          have hb14 := belOf hb12.out hb13
          have h1 := Ti.pparse_any s B w10 (gL.out w10 hb14) (gE.out w10 hb14) (gN.out w10 hb14).2 (by omega)
          replace hb14 := Box.mk hb14
          clear hb12 hb13 hb15 hM1 hM2 r0 r1 r15
          cases hp6 : Ti.parseD s.data.toList with
          | none =>
            have hv : Ti.parV s.data.toList = .tuple #[.agg #[.int .i64 0, .int .i64 0, .int .i64 0], .int .i64 3] := by unfold Ti.parV Ti.tv; rw [hp6]
            rw [hv] at h1

            clear hv hp6
            go_wp2_with fail
            refine h1.mono ?_
            clear h1
            rintro e w11 ⟨rfl, hb16⟩
            replace hb16 := belOf (belOf hb14.out hb16) (bel_alloc w11 (.cells #[.int .i64 0, .int .i64 0, .int .i64 0] 51))
            clear hb14
            replace hb16 := Box.mk hb16
            go_wp2_with fail
            go_ret
            exact ⟨by first | rfl | simp, by first | exact hb16.out | (refine belOf hb16.out ?_; assumption)⟩
          | some v =>
            obtain ⟨TL, TI, TW⟩ := v
            have hv : Ti.parV s.data.toList = .tuple #[.agg #[.int .i64 TL, .int .i64 TI, .int .i64 TW], .int .i64 0] := by unfold Ti.parV Ti.tv; rw [hp6]
            rw [hv] at h1
            have hpt := Ti.pa_told hp6
            clear hv hp6
            go_wp2_with fail
            refine h1.mono ?_
            clear h1
            rintro e w11 ⟨rfl, hb16⟩
            replace hb16 := belOf (belOf hb14.out hb16) (bel_alloc w11 (.cells #[.int .i64 TL, .int .i64 TI, .int .i64 TW] 51))
            clear hb14
            have h1 := Ti.path_any TL TI TW B _ (gL.out _ hb16) (gN.out _ hb16).2
            unfold Ti.tv at h1
            rw [hpt] at h1
            clear hpt
            replace hb16 := Box.mk hb16
            go_wp2_with fail
            refine h1.mono ?_
            clear h1
            rintro e w12 ⟨rfl, hb17⟩
            replace hb16 := belOf hb16.out hb17
            clear hb17
            replace hb16 := Box.mk hb16
            go_wp2_with fail
            go_ret
            exact ⟨by first | rfl | simp, by first | exact hb16.out | (refine belOf hb16.out ?_; assumption)⟩
      | true =>
        obtain ⟨k1, k2⟩ := Bi.acc_told _ _ hq
        replace h1 := h1.mono fun e w' h => h.1 hq
        unfold Bi.BilIs at h1
        obtain ⟨k3, k4⟩ := Bi.bytT_yes k1
        rw [k2] at k3
        obtain ⟨d, hd⟩ : ∃ d, Bi.hdR s.data.toList = d := ⟨_, rfl⟩
        rw [hd] at h1 k2 k4
        obtain ⟨L, hL⟩ : ∃ L, (Bi.hsR (Bi.kP d) d.l d.e).1 = L := ⟨_, rfl⟩
        rw [hL] at h1 k2 k4
        obtain ⟨V, S, C, H, T, l0, e0⟩ := d
        dsimp only at h1 k2 k4
        clear hq k1 k3 hd hL
        go_wp2_with fail
        refine h1.mono ?_
        clear h1
        rintro e w6 ⟨y, rfl, hT6, hb8⟩
        obtain ⟨a6, k6, rfl⟩ := hT6.shape
        obtain ⟨n6, hn6⟩ : ∃ n, L.length = n := ⟨_, rfl⟩
        rw [hn6] at hT6 ⊢
        have hX6 := bel_alloc w6 (.cells #[.int .i64 V, .int .i64 S, .int .i64 C, .string H, .string T, .slice a6 n6 k6] 37)
        replace hb8 := belOf (belOf hb7.out hb8) hX6
        have h1 := Bi.bbytes_any V S C H T a6 n6 k6 L _ (Bi.txPA (hT6.here hX6) hn6) (gL.out _ hb8).kis
        rw [k2, k4, show (⟨s.data.toList.toArray⟩ : ByteArray) = s from rfl] at h1
        clear k2 k4
        replace hb8 := Box.mk hb8
        clear hb7 hT6 hX6
        go_wp2_with fail
        refine h1.mono ?_
        clear h1
        rintro e w7 ⟨rfl, hb9⟩
        have hb10 := belOf hb8.out hb9
        have h1 := Me.decode_any s B w7 (gN.out w7 hb10).1 (gN.out w7 hb10).2
        unfold Me.DecS at h1
        replace hb10 := Box.mk hb10
        clear hb8 hb9
        rcases Me.me_case s with ⟨D, hm, hen⟩ | hm
        · have hok : Me.DcOk D := by have := Me.dec_ok (l := s.data.toList); rw [hm] at this; exact this
          rw [hm] at h1
          dsimp only at h1
          clear hm
          replace hen := Box.mk hen
          replace hok := Box.mk hok
          go_wp2_with fail
          refine h1.mono ?_
          clear h1
          rintro e w8 ⟨⟨za, rfl, hra⟩, hb11⟩
          obtain ⟨b15, hb15, hZ15, hT15⟩ := @Me.store_var w8 D za
          go_wp2_with (refine Me.wpList_store_doc rfl (.tmp 15) (.tmp 134) rfl b15 D za (by first | rfl | (rw [← hb15]; rfl)) rfl hZ15.out rfl ?_; intro w9 hw9; obtain ⟨hM1, hM2⟩ := hT15.out w9 hw9; replace hM1 := Box.mk hM1; replace hM2 := Box.mk hM2; clear hw9 hT15 hZ15; refine Box.out ?_)
          obtain ⟨x134, hx134⟩ : ∃ x, Me.docV D za = x := ⟨_, rfl⟩
          rw [hx134]
          clear hx134
          refine ⟨?_⟩
          have hb12 := belOf (belOf hb10.out hb11) hM1.out
          have h1 := Me.encode_any D za B w9 (gN.out w9 hb12).1 (gN.out w9 hb12).2 (hra.below hM1.out).at_ hok.out
          rw [hen.out] at h1
          replace hb12 := Box.mk hb12
          clear hb10 hb11 hra hen hok

          go_wp2_with ((with_reducible show wpList _ _ _ (⟨some 155, _, _, _, _, _⟩ :: _) _ _); refine Box.out ?_)
          refine ⟨?_⟩
          refine Me.wpList_loadG (by rfl) 46 (.tmp 15) rfl b15 0 rfl (Me.docL D za) _ (Me.blk_range hM2.out) Tryz.underlying46 rfl (Me.doc_size _ _) ?_
          go_wp2_with fail
          refine h1.mono ?_
          clear h1
          rintro e w10 ⟨rfl, hb13⟩
          have hb14 := belOf hb12.out hb13
          have h1 := Ti.pparse_any s B w10 (gL.out w10 hb14) (gE.out w10 hb14) (gN.out w10 hb14).2 (by omega)
          replace hb14 := Box.mk hb14
          clear hb12 hb13 hb15 hM1 hM2
          cases hp6 : Ti.parseD s.data.toList with
          | none =>
            have hv : Ti.parV s.data.toList = .tuple #[.agg #[.int .i64 0, .int .i64 0, .int .i64 0], .int .i64 3] := by unfold Ti.parV Ti.tv; rw [hp6]
            rw [hv] at h1

            clear hv hp6
            go_wp2_with fail
            refine h1.mono ?_
            clear h1
            rintro e w11 ⟨rfl, hb16⟩
            replace hb16 := belOf (belOf hb14.out hb16) (bel_alloc w11 (.cells #[.int .i64 0, .int .i64 0, .int .i64 0] 51))
            clear hb14
            replace hb16 := Box.mk hb16
            go_wp2_with fail
            go_ret
            exact ⟨by first | rfl | simp, by first | exact hb16.out | (refine belOf hb16.out ?_; assumption)⟩
          | some v =>
            obtain ⟨TL, TI, TW⟩ := v
            have hv : Ti.parV s.data.toList = .tuple #[.agg #[.int .i64 TL, .int .i64 TI, .int .i64 TW], .int .i64 0] := by unfold Ti.parV Ti.tv; rw [hp6]
            rw [hv] at h1
            have hpt := Ti.pa_told hp6
            clear hv hp6
            go_wp2_with fail
            refine h1.mono ?_
            clear h1
            rintro e w11 ⟨rfl, hb16⟩
            replace hb16 := belOf (belOf hb14.out hb16) (bel_alloc w11 (.cells #[.int .i64 TL, .int .i64 TI, .int .i64 TW] 51))
            clear hb14
            have h1 := Ti.path_any TL TI TW B _ (gL.out _ hb16) (gN.out _ hb16).2
            unfold Ti.tv at h1
            rw [hpt] at h1
            clear hpt
            replace hb16 := Box.mk hb16
            go_wp2_with fail
            refine h1.mono ?_
            clear h1
            rintro e w12 ⟨rfl, hb17⟩
            replace hb16 := belOf hb16.out hb17
            clear hb17
            replace hb16 := Box.mk hb16
            go_wp2_with fail
            go_ret
            exact ⟨by first | rfl | simp, by first | exact hb16.out | (refine belOf hb16.out ?_; assumption)⟩
        · have hok : Me.DcOk Me.dc0 := by have := Me.dec_ok (l := s.data.toList); rw [hm] at this; exact this
          have hen : Me.encR Me.dc0 = .tuple #[.string ⟨#[]⟩, .int .i64 1] := by unfold Me.encR Me.encV; rw [show Me.chkD Me.dc0 = false from by decide]; rfl
          rw [hm] at h1
          dsimp only at h1
          clear hm
          replace hen := Box.mk hen
          replace hok := Box.mk hok
          go_wp2_with fail
          refine h1.mono ?_
          clear h1
          rintro e w8 ⟨⟨za, rfl, hra⟩, hb11⟩
          obtain ⟨b15, hb15, hZ15, hT15⟩ := @Me.store_var w8 Me.dc0 za
          go_wp2_with (refine Me.wpList_store_doc rfl (.tmp 15) (.tmp 134) rfl b15 Me.dc0 za (by first | rfl | (rw [← hb15]; rfl)) rfl hZ15.out rfl ?_; intro w9 hw9; obtain ⟨hM1, hM2⟩ := hT15.out w9 hw9; replace hM1 := Box.mk hM1; replace hM2 := Box.mk hM2; clear hw9 hT15 hZ15; refine Box.out ?_)
          obtain ⟨x134, hx134⟩ : ∃ x, Me.docV Me.dc0 za = x := ⟨_, rfl⟩
          rw [hx134]
          clear hx134
          refine ⟨?_⟩
          have hb12 := belOf (belOf hb10.out hb11) hM1.out
          have h1 := Me.encode_any Me.dc0 za B w9 (gN.out w9 hb12).1 (gN.out w9 hb12).2 (hra.below hM1.out).at_ hok.out
          rw [hen.out] at h1
          replace hb12 := Box.mk hb12
          clear hb10 hb11 hra hen hok
          have r0 : w9.cell? ⟨b15, 0, none⟩ = some (.int .i64 0) := Pk.Blk.cell hM2.out 0
          have r1 : w9.cell? ⟨b15, 1, none⟩ = some (.int .i64 0) := Pk.Blk.cell hM2.out 1
          have r15 : w9.cell? ⟨b15, 15, none⟩ = some (.slice za.al.1 0 za.al.2) := Pk.Blk.cell hM2.out 15
          go_wp2_with ((with_reducible show wpList _ _ _ (⟨some 155, _, _, _, _, _⟩ :: _) _ _); refine Box.out ?_)
          refine ⟨?_⟩
          refine Me.wpList_loadG (by rfl) 46 (.tmp 15) rfl b15 0 rfl (Me.docL Me.dc0 za) _ (Me.blk_range hM2.out) Tryz.underlying46 rfl (Me.doc_size _ _) ?_
          go_wp2_with fail
          refine h1.mono ?_
          clear h1
          rintro e w10 ⟨rfl, hb13⟩
          have hb14 := belOf hb12.out hb13
          have h1 := Ti.pparse_any s B w10 (gL.out w10 hb14) (gE.out w10 hb14) (gN.out w10 hb14).2 (by omega)
          replace hb14 := Box.mk hb14
          clear hb12 hb13 hb15 hM1 hM2 r0 r1 r15
          cases hp6 : Ti.parseD s.data.toList with
          | none =>
            have hv : Ti.parV s.data.toList = .tuple #[.agg #[.int .i64 0, .int .i64 0, .int .i64 0], .int .i64 3] := by unfold Ti.parV Ti.tv; rw [hp6]
            rw [hv] at h1

            clear hv hp6
            go_wp2_with fail
            refine h1.mono ?_
            clear h1
            rintro e w11 ⟨rfl, hb16⟩
            replace hb16 := belOf (belOf hb14.out hb16) (bel_alloc w11 (.cells #[.int .i64 0, .int .i64 0, .int .i64 0] 51))
            clear hb14
            replace hb16 := Box.mk hb16
            go_wp2_with fail
            go_ret
            exact ⟨by first | rfl | simp, by first | exact hb16.out | (refine belOf hb16.out ?_; assumption)⟩
          | some v =>
            obtain ⟨TL, TI, TW⟩ := v
            have hv : Ti.parV s.data.toList = .tuple #[.agg #[.int .i64 TL, .int .i64 TI, .int .i64 TW], .int .i64 0] := by unfold Ti.parV Ti.tv; rw [hp6]
            rw [hv] at h1
            have hpt := Ti.pa_told hp6
            clear hv hp6
            go_wp2_with fail
            refine h1.mono ?_
            clear h1
            rintro e w11 ⟨rfl, hb16⟩
            replace hb16 := belOf (belOf hb14.out hb16) (bel_alloc w11 (.cells #[.int .i64 TL, .int .i64 TI, .int .i64 TW] 51))
            clear hb14
            have h1 := Ti.path_any TL TI TW B _ (gL.out _ hb16) (gN.out _ hb16).2
            unfold Ti.tv at h1
            rw [hpt] at h1
            clear hpt
            replace hb16 := Box.mk hb16
            go_wp2_with fail
            refine h1.mono ?_
            clear h1
            rintro e w12 ⟨rfl, hb17⟩
            replace hb16 := belOf hb16.out hb17
            clear hb17
            replace hb16 := Box.mk hb16
            go_wp2_with fail
            go_ret
            exact ⟨by first | rfl | simp, by first | exact hb16.out | (refine belOf hb16.out ?_; assumption)⟩
  | some n =>
    obtain ⟨e1, e2, e3⟩ := Nt.rd_some hn
    rw [e1, e2, e3] at h1
    obtain ⟨hf, hz1, hz2, hz3⟩ := Nt.rd_told hn
    obtain ⟨t, sg⟩ := n
    dsimp only at h1 hf hz1 hz2 hz3
    clear e1 e2 e3 hn
    go_wp2_with fail
    refine h1.mono ?_
    clear h1
    rintro e w2 ⟨v, rfl, hR⟩
    have hR2 := hR.sigs
    obtain ⟨a, c, rfl⟩ := hR.row.shape
    obtain ⟨nn, hnn⟩ : ∃ n, sg.length = n := ⟨_, rfl⟩
    rw [hnn] at hR2 hz2 ⊢
    have hb2 := belOf hb1.out hR.bel
    have hX := bel_alloc w2 (.cells #[.string t, .slice a nn c] 29)
    replace hb2 := belOf hb2 hX
    have h1 := Nt.format_any t a nn c sg B _ (gN.out _ hb2).1 (gN.out _ hb2).2 (by omega) (hR2.here hX) hnn (by omega) hz3
    rw [hf] at h1
    clear hf hz1 hz2 hz3 hnn
    replace hb2 := Box.mk hb2
    clear hR hR2 hX hb1
    go_wp2_with fail
    refine h1.mono ?_
    clear h1
    rintro e w3 ⟨rfl, hb3⟩
    have hb4 := belOf hb2.out hb3
    have h1 := Nt.parse_any s B w3 (gN.out w3 hb4).1 (gN.out w3 hb4).2 hs
    replace hb4 := Box.mk hb4
    clear hb2 hb3
    cases hp : Nt.pCk s.data.toList with
    | none =>
      rw [Nt.prV_none hp] at h1
      clear hp
      go_wp2_with fail
      refine h1.mono ?_
      clear h1
      rintro e w4 ⟨rfl, hb5⟩
      replace hb5 := belOf (belOf hb4.out hb5) (bel_alloc w4 (.cells #[.string ⟨#[]⟩, .int .i64 0, .string ⟨#[]⟩] 23))
      have h1 := Nt.text_any ⟨⟨#[]⟩, 0, ⟨#[]⟩⟩ B _ (gN.out _ hb5).1 (gN.out _ hb5).2 (by decide) (by decide)
      unfold Nt.txtV Nt.ckV at h1
      dsimp only at h1
      obtain ⟨Z, hZ⟩ : ∃ F, Nt.txtS ⟨(⟨#[]⟩ : ByteArray), 0, ⟨#[]⟩⟩ = F := ⟨_, rfl⟩
      obtain ⟨ZE, hZE⟩ : ∃ F, Nt.txtE ⟨(⟨#[]⟩ : ByteArray), 0, ⟨#[]⟩⟩ = F := ⟨_, rfl⟩
      rw [hZ, hZE] at h1
      clear hZ hZE
      replace hb5 := Box.mk hb5
      clear hb4
      go_wp2_with fail
      refine h1.mono ?_
      clear h1
      rintro e w5 ⟨rfl, hb6⟩
      have hb7 := belOf hb5.out hb6
      have h1 := Bi.read_any s w5 (gL.out w5 hb7).kis
      replace hb7 := Box.mk hb7
      clear hb5 hb6
      cases hq : Bi.acc (Bi.hdR s.data.toList) (Bi.kP (Bi.hdR s.data.toList)) with
      | false =>
        replace h1 := h1.mono fun e w' h => h.2 hq
        unfold Bi.BilIs at h1
        clear hq
        go_wp2_with fail
        refine h1.mono ?_
        clear h1
        rintro e w6 ⟨y, rfl, hT6, hb8⟩
        obtain ⟨a6, k6, rfl⟩ := hT6.shape
        simp only [List.length_nil] at hT6 ⊢
        have hX6 := bel_alloc w6 (.cells #[.int .i64 0, .int .i64 0, .int .i64 0, .string ⟨#[]⟩, .string ⟨#[]⟩, .slice a6 0 k6] 37)
        replace hb8 := belOf (belOf hb7.out hb8) hX6
        have h1 := Bi.bbytes_any 0 0 0 ⟨#[]⟩ ⟨#[]⟩ a6 0 k6 [] _ (Bi.txPA (hT6.here hX6) rfl) (gL.out _ hb8).kis
        obtain ⟨U, hU⟩ : ∃ F, Bi.bytT 0 0 0 ⟨#[]⟩ ⟨#[]⟩ [] = F := ⟨_, rfl⟩
        obtain ⟨UE, hUE⟩ : ∃ F, Bi.chkI 0 0 0 ⟨#[]⟩ ⟨#[]⟩ [] = F := ⟨_, rfl⟩
        rw [hU, hUE] at h1
        clear hU hUE
        replace hb8 := Box.mk hb8
        clear hb7 hT6 hX6
        go_wp2_with fail
        refine h1.mono ?_
        clear h1
        rintro e w7 ⟨rfl, hb9⟩
        have hb10 := belOf hb8.out hb9
        have h1 := Me.decode_any s B w7 (gN.out w7 hb10).1 (gN.out w7 hb10).2
        unfold Me.DecS at h1
        replace hb10 := Box.mk hb10
        clear hb8 hb9
        rcases Me.me_case s with ⟨D, hm, hen⟩ | hm
        · have hok : Me.DcOk D := by have := Me.dec_ok (l := s.data.toList); rw [hm] at this; exact this
          rw [hm] at h1
          dsimp only at h1
          clear hm
          replace hen := Box.mk hen
          replace hok := Box.mk hok
          go_wp2_with fail
          refine h1.mono ?_
          clear h1
          rintro e w8 ⟨⟨za, rfl, hra⟩, hb11⟩
          obtain ⟨b15, hb15, hZ15, hT15⟩ := @Me.store_var w8 D za
          go_wp2_with (refine Me.wpList_store_doc rfl (.tmp 15) (.tmp 134) rfl b15 D za (by first | rfl | (rw [← hb15]; rfl)) rfl hZ15.out rfl ?_; intro w9 hw9; obtain ⟨hM1, hM2⟩ := hT15.out w9 hw9; replace hM1 := Box.mk hM1; replace hM2 := Box.mk hM2; clear hw9 hT15 hZ15; refine Box.out ?_)
          obtain ⟨x134, hx134⟩ : ∃ x, Me.docV D za = x := ⟨_, rfl⟩
          rw [hx134]
          clear hx134
          refine ⟨?_⟩
          have hb12 := belOf (belOf hb10.out hb11) hM1.out
          have h1 := Me.encode_any D za B w9 (gN.out w9 hb12).1 (gN.out w9 hb12).2 (hra.below hM1.out).at_ hok.out
          rw [hen.out] at h1
          replace hb12 := Box.mk hb12
          clear hb10 hb11 hra hen hok

          go_wp2_with ((with_reducible show wpList _ _ _ (⟨some 155, _, _, _, _, _⟩ :: _) _ _); refine Box.out ?_)
          refine ⟨?_⟩
          refine Me.wpList_loadG (by rfl) 46 (.tmp 15) rfl b15 0 rfl (Me.docL D za) _ (Me.blk_range hM2.out) Tryz.underlying46 rfl (Me.doc_size _ _) ?_
          go_wp2_with fail
          refine h1.mono ?_
          clear h1
          rintro e w10 ⟨rfl, hb13⟩
          have hb14 := belOf hb12.out hb13
          have h1 := Ti.pparse_any s B w10 (gL.out w10 hb14) (gE.out w10 hb14) (gN.out w10 hb14).2 (by omega)
          replace hb14 := Box.mk hb14
          clear hb12 hb13 hb15 hM1 hM2
          cases hp6 : Ti.parseD s.data.toList with
          | none =>
            have hv : Ti.parV s.data.toList = .tuple #[.agg #[.int .i64 0, .int .i64 0, .int .i64 0], .int .i64 3] := by unfold Ti.parV Ti.tv; rw [hp6]
            rw [hv] at h1

            clear hv hp6
            go_wp2_with fail
            refine h1.mono ?_
            clear h1
            rintro e w11 ⟨rfl, hb16⟩
            replace hb16 := belOf (belOf hb14.out hb16) (bel_alloc w11 (.cells #[.int .i64 0, .int .i64 0, .int .i64 0] 51))
            clear hb14
            replace hb16 := Box.mk hb16
            go_wp2_with fail
            go_ret
            exact ⟨by first | rfl | simp, by first | exact hb16.out | (refine belOf hb16.out ?_; assumption)⟩
          | some v =>
            obtain ⟨TL, TI, TW⟩ := v
            have hv : Ti.parV s.data.toList = .tuple #[.agg #[.int .i64 TL, .int .i64 TI, .int .i64 TW], .int .i64 0] := by unfold Ti.parV Ti.tv; rw [hp6]
            rw [hv] at h1
            have hpt := Ti.pa_told hp6
            clear hv hp6
            go_wp2_with fail
            refine h1.mono ?_
            clear h1
            rintro e w11 ⟨rfl, hb16⟩
            replace hb16 := belOf (belOf hb14.out hb16) (bel_alloc w11 (.cells #[.int .i64 TL, .int .i64 TI, .int .i64 TW] 51))
            clear hb14
            have h1 := Ti.path_any TL TI TW B _ (gL.out _ hb16) (gN.out _ hb16).2
            unfold Ti.tv at h1
            rw [hpt] at h1
            clear hpt
            replace hb16 := Box.mk hb16
            go_wp2_with fail
            refine h1.mono ?_
            clear h1
            rintro e w12 ⟨rfl, hb17⟩
            replace hb16 := belOf hb16.out hb17
            clear hb17
            replace hb16 := Box.mk hb16
            go_wp2_with fail
            go_ret
            exact ⟨by first | rfl | simp, by first | exact hb16.out | (refine belOf hb16.out ?_; assumption)⟩
        · have hok : Me.DcOk Me.dc0 := by have := Me.dec_ok (l := s.data.toList); rw [hm] at this; exact this
          have hen : Me.encR Me.dc0 = .tuple #[.string ⟨#[]⟩, .int .i64 1] := by unfold Me.encR Me.encV; rw [show Me.chkD Me.dc0 = false from by decide]; rfl
          rw [hm] at h1
          dsimp only at h1
          clear hm
          replace hen := Box.mk hen
          replace hok := Box.mk hok
          go_wp2_with fail
          refine h1.mono ?_
          clear h1
          rintro e w8 ⟨⟨za, rfl, hra⟩, hb11⟩
          obtain ⟨b15, hb15, hZ15, hT15⟩ := @Me.store_var w8 Me.dc0 za
          go_wp2_with (refine Me.wpList_store_doc rfl (.tmp 15) (.tmp 134) rfl b15 Me.dc0 za (by first | rfl | (rw [← hb15]; rfl)) rfl hZ15.out rfl ?_; intro w9 hw9; obtain ⟨hM1, hM2⟩ := hT15.out w9 hw9; replace hM1 := Box.mk hM1; replace hM2 := Box.mk hM2; clear hw9 hT15 hZ15; refine Box.out ?_)
          obtain ⟨x134, hx134⟩ : ∃ x, Me.docV Me.dc0 za = x := ⟨_, rfl⟩
          rw [hx134]
          clear hx134
          refine ⟨?_⟩
          have hb12 := belOf (belOf hb10.out hb11) hM1.out
          have h1 := Me.encode_any Me.dc0 za B w9 (gN.out w9 hb12).1 (gN.out w9 hb12).2 (hra.below hM1.out).at_ hok.out
          rw [hen.out] at h1
          replace hb12 := Box.mk hb12
          clear hb10 hb11 hra hen hok
          have r0 : w9.cell? ⟨b15, 0, none⟩ = some (.int .i64 0) := Pk.Blk.cell hM2.out 0
          have r1 : w9.cell? ⟨b15, 1, none⟩ = some (.int .i64 0) := Pk.Blk.cell hM2.out 1
          have r15 : w9.cell? ⟨b15, 15, none⟩ = some (.slice za.al.1 0 za.al.2) := Pk.Blk.cell hM2.out 15
          go_wp2_with ((with_reducible show wpList _ _ _ (⟨some 155, _, _, _, _, _⟩ :: _) _ _); refine Box.out ?_)
          refine ⟨?_⟩
          refine Me.wpList_loadG (by rfl) 46 (.tmp 15) rfl b15 0 rfl (Me.docL Me.dc0 za) _ (Me.blk_range hM2.out) Tryz.underlying46 rfl (Me.doc_size _ _) ?_
          go_wp2_with fail
          refine h1.mono ?_
          clear h1
          rintro e w10 ⟨rfl, hb13⟩
          have hb14 := belOf hb12.out hb13
          have h1 := Ti.pparse_any s B w10 (gL.out w10 hb14) (gE.out w10 hb14) (gN.out w10 hb14).2 (by omega)
          replace hb14 := Box.mk hb14
          clear hb12 hb13 hb15 hM1 hM2 r0 r1 r15
          cases hp6 : Ti.parseD s.data.toList with
          | none =>
            have hv : Ti.parV s.data.toList = .tuple #[.agg #[.int .i64 0, .int .i64 0, .int .i64 0], .int .i64 3] := by unfold Ti.parV Ti.tv; rw [hp6]
            rw [hv] at h1

            clear hv hp6
            go_wp2_with fail
            refine h1.mono ?_
            clear h1
            rintro e w11 ⟨rfl, hb16⟩
            replace hb16 := belOf (belOf hb14.out hb16) (bel_alloc w11 (.cells #[.int .i64 0, .int .i64 0, .int .i64 0] 51))
            clear hb14
            replace hb16 := Box.mk hb16
            go_wp2_with fail
            go_ret
            exact ⟨by first | rfl | simp, by first | exact hb16.out | (refine belOf hb16.out ?_; assumption)⟩
          | some v =>
            obtain ⟨TL, TI, TW⟩ := v
            have hv : Ti.parV s.data.toList = .tuple #[.agg #[.int .i64 TL, .int .i64 TI, .int .i64 TW], .int .i64 0] := by unfold Ti.parV Ti.tv; rw [hp6]
            rw [hv] at h1
            have hpt := Ti.pa_told hp6
            clear hv hp6
            go_wp2_with fail
            refine h1.mono ?_
            clear h1
            rintro e w11 ⟨rfl, hb16⟩
            replace hb16 := belOf (belOf hb14.out hb16) (bel_alloc w11 (.cells #[.int .i64 TL, .int .i64 TI, .int .i64 TW] 51))
            clear hb14
            have h1 := Ti.path_any TL TI TW B _ (gL.out _ hb16) (gN.out _ hb16).2
            unfold Ti.tv at h1
            rw [hpt] at h1
            clear hpt
            replace hb16 := Box.mk hb16
            go_wp2_with fail
            refine h1.mono ?_
            clear h1
            rintro e w12 ⟨rfl, hb17⟩
            replace hb16 := belOf hb16.out hb17
            clear hb17
            replace hb16 := Box.mk hb16
            go_wp2_with fail
            go_ret
            exact ⟨by first | rfl | simp, by first | exact hb16.out | (refine belOf hb16.out ?_; assumption)⟩
      | true =>
        obtain ⟨k1, k2⟩ := Bi.acc_told _ _ hq
        replace h1 := h1.mono fun e w' h => h.1 hq
        unfold Bi.BilIs at h1
        obtain ⟨k3, k4⟩ := Bi.bytT_yes k1
        rw [k2] at k3
        obtain ⟨d, hd⟩ : ∃ d, Bi.hdR s.data.toList = d := ⟨_, rfl⟩
        rw [hd] at h1 k2 k4
        obtain ⟨L, hL⟩ : ∃ L, (Bi.hsR (Bi.kP d) d.l d.e).1 = L := ⟨_, rfl⟩
        rw [hL] at h1 k2 k4
        obtain ⟨V, S, C, H, T, l0, e0⟩ := d
        dsimp only at h1 k2 k4
        clear hq k1 k3 hd hL
        go_wp2_with fail
        refine h1.mono ?_
        clear h1
        rintro e w6 ⟨y, rfl, hT6, hb8⟩
        obtain ⟨a6, k6, rfl⟩ := hT6.shape
        obtain ⟨n6, hn6⟩ : ∃ n, L.length = n := ⟨_, rfl⟩
        rw [hn6] at hT6 ⊢
        have hX6 := bel_alloc w6 (.cells #[.int .i64 V, .int .i64 S, .int .i64 C, .string H, .string T, .slice a6 n6 k6] 37)
        replace hb8 := belOf (belOf hb7.out hb8) hX6
        have h1 := Bi.bbytes_any V S C H T a6 n6 k6 L _ (Bi.txPA (hT6.here hX6) hn6) (gL.out _ hb8).kis
        rw [k2, k4, show (⟨s.data.toList.toArray⟩ : ByteArray) = s from rfl] at h1
        clear k2 k4
        replace hb8 := Box.mk hb8
        clear hb7 hT6 hX6
        go_wp2_with fail
        refine h1.mono ?_
        clear h1
        rintro e w7 ⟨rfl, hb9⟩
        have hb10 := belOf hb8.out hb9
        have h1 := Me.decode_any s B w7 (gN.out w7 hb10).1 (gN.out w7 hb10).2
        unfold Me.DecS at h1
        replace hb10 := Box.mk hb10
        clear hb8 hb9
        rcases Me.me_case s with ⟨D, hm, hen⟩ | hm
        · have hok : Me.DcOk D := by have := Me.dec_ok (l := s.data.toList); rw [hm] at this; exact this
          rw [hm] at h1
          dsimp only at h1
          clear hm
          replace hen := Box.mk hen
          replace hok := Box.mk hok
          go_wp2_with fail
          refine h1.mono ?_
          clear h1
          rintro e w8 ⟨⟨za, rfl, hra⟩, hb11⟩
          obtain ⟨b15, hb15, hZ15, hT15⟩ := @Me.store_var w8 D za
          go_wp2_with (refine Me.wpList_store_doc rfl (.tmp 15) (.tmp 134) rfl b15 D za (by first | rfl | (rw [← hb15]; rfl)) rfl hZ15.out rfl ?_; intro w9 hw9; obtain ⟨hM1, hM2⟩ := hT15.out w9 hw9; replace hM1 := Box.mk hM1; replace hM2 := Box.mk hM2; clear hw9 hT15 hZ15; refine Box.out ?_)
          obtain ⟨x134, hx134⟩ : ∃ x, Me.docV D za = x := ⟨_, rfl⟩
          rw [hx134]
          clear hx134
          refine ⟨?_⟩
          have hb12 := belOf (belOf hb10.out hb11) hM1.out
          have h1 := Me.encode_any D za B w9 (gN.out w9 hb12).1 (gN.out w9 hb12).2 (hra.below hM1.out).at_ hok.out
          rw [hen.out] at h1
          replace hb12 := Box.mk hb12
          clear hb10 hb11 hra hen hok

          go_wp2_with ((with_reducible show wpList _ _ _ (⟨some 155, _, _, _, _, _⟩ :: _) _ _); refine Box.out ?_)
          refine ⟨?_⟩
          refine Me.wpList_loadG (by rfl) 46 (.tmp 15) rfl b15 0 rfl (Me.docL D za) _ (Me.blk_range hM2.out) Tryz.underlying46 rfl (Me.doc_size _ _) ?_
          go_wp2_with fail
          refine h1.mono ?_
          clear h1
          rintro e w10 ⟨rfl, hb13⟩
          have hb14 := belOf hb12.out hb13
          have h1 := Ti.pparse_any s B w10 (gL.out w10 hb14) (gE.out w10 hb14) (gN.out w10 hb14).2 (by omega)
          replace hb14 := Box.mk hb14
          clear hb12 hb13 hb15 hM1 hM2
          cases hp6 : Ti.parseD s.data.toList with
          | none =>
            have hv : Ti.parV s.data.toList = .tuple #[.agg #[.int .i64 0, .int .i64 0, .int .i64 0], .int .i64 3] := by unfold Ti.parV Ti.tv; rw [hp6]
            rw [hv] at h1

            clear hv hp6
            go_wp2_with fail
            refine h1.mono ?_
            clear h1
            rintro e w11 ⟨rfl, hb16⟩
            replace hb16 := belOf (belOf hb14.out hb16) (bel_alloc w11 (.cells #[.int .i64 0, .int .i64 0, .int .i64 0] 51))
            clear hb14
            replace hb16 := Box.mk hb16
            go_wp2_with fail
            go_ret
            exact ⟨by first | rfl | simp, by first | exact hb16.out | (refine belOf hb16.out ?_; assumption)⟩
          | some v =>
            obtain ⟨TL, TI, TW⟩ := v
            have hv : Ti.parV s.data.toList = .tuple #[.agg #[.int .i64 TL, .int .i64 TI, .int .i64 TW], .int .i64 0] := by unfold Ti.parV Ti.tv; rw [hp6]
            rw [hv] at h1
            have hpt := Ti.pa_told hp6
            clear hv hp6
            go_wp2_with fail
            refine h1.mono ?_
            clear h1
            rintro e w11 ⟨rfl, hb16⟩
            replace hb16 := belOf (belOf hb14.out hb16) (bel_alloc w11 (.cells #[.int .i64 TL, .int .i64 TI, .int .i64 TW] 51))
            clear hb14
            have h1 := Ti.path_any TL TI TW B _ (gL.out _ hb16) (gN.out _ hb16).2
            unfold Ti.tv at h1
            rw [hpt] at h1
            clear hpt
            replace hb16 := Box.mk hb16
            go_wp2_with fail
            refine h1.mono ?_
            clear h1
            rintro e w12 ⟨rfl, hb17⟩
            replace hb16 := belOf hb16.out hb17
            clear hb17
            replace hb16 := Box.mk hb16
            go_wp2_with fail
            go_ret
            exact ⟨by first | rfl | simp, by first | exact hb16.out | (refine belOf hb16.out ?_; assumption)⟩
        · have hok : Me.DcOk Me.dc0 := by have := Me.dec_ok (l := s.data.toList); rw [hm] at this; exact this
          have hen : Me.encR Me.dc0 = .tuple #[.string ⟨#[]⟩, .int .i64 1] := by unfold Me.encR Me.encV; rw [show Me.chkD Me.dc0 = false from by decide]; rfl
          rw [hm] at h1
          dsimp only at h1
          clear hm
          replace hen := Box.mk hen
          replace hok := Box.mk hok
          go_wp2_with fail
          refine h1.mono ?_
          clear h1
          rintro e w8 ⟨⟨za, rfl, hra⟩, hb11⟩
          obtain ⟨b15, hb15, hZ15, hT15⟩ := @Me.store_var w8 Me.dc0 za
          go_wp2_with (refine Me.wpList_store_doc rfl (.tmp 15) (.tmp 134) rfl b15 Me.dc0 za (by first | rfl | (rw [← hb15]; rfl)) rfl hZ15.out rfl ?_; intro w9 hw9; obtain ⟨hM1, hM2⟩ := hT15.out w9 hw9; replace hM1 := Box.mk hM1; replace hM2 := Box.mk hM2; clear hw9 hT15 hZ15; refine Box.out ?_)
          obtain ⟨x134, hx134⟩ : ∃ x, Me.docV Me.dc0 za = x := ⟨_, rfl⟩
          rw [hx134]
          clear hx134
          refine ⟨?_⟩
          have hb12 := belOf (belOf hb10.out hb11) hM1.out
          have h1 := Me.encode_any Me.dc0 za B w9 (gN.out w9 hb12).1 (gN.out w9 hb12).2 (hra.below hM1.out).at_ hok.out
          rw [hen.out] at h1
          replace hb12 := Box.mk hb12
          clear hb10 hb11 hra hen hok
          have r0 : w9.cell? ⟨b15, 0, none⟩ = some (.int .i64 0) := Pk.Blk.cell hM2.out 0
          have r1 : w9.cell? ⟨b15, 1, none⟩ = some (.int .i64 0) := Pk.Blk.cell hM2.out 1
          have r15 : w9.cell? ⟨b15, 15, none⟩ = some (.slice za.al.1 0 za.al.2) := Pk.Blk.cell hM2.out 15
          go_wp2_with ((with_reducible show wpList _ _ _ (⟨some 155, _, _, _, _, _⟩ :: _) _ _); refine Box.out ?_)
          refine ⟨?_⟩
          refine Me.wpList_loadG (by rfl) 46 (.tmp 15) rfl b15 0 rfl (Me.docL Me.dc0 za) _ (Me.blk_range hM2.out) Tryz.underlying46 rfl (Me.doc_size _ _) ?_
          go_wp2_with fail
          refine h1.mono ?_
          clear h1
          rintro e w10 ⟨rfl, hb13⟩
          have hb14 := belOf hb12.out hb13
          have h1 := Ti.pparse_any s B w10 (gL.out w10 hb14) (gE.out w10 hb14) (gN.out w10 hb14).2 (by omega)
          replace hb14 := Box.mk hb14
          clear hb12 hb13 hb15 hM1 hM2 r0 r1 r15
          cases hp6 : Ti.parseD s.data.toList with
          | none =>
            have hv : Ti.parV s.data.toList = .tuple #[.agg #[.int .i64 0, .int .i64 0, .int .i64 0], .int .i64 3] := by unfold Ti.parV Ti.tv; rw [hp6]
            rw [hv] at h1

            clear hv hp6
            go_wp2_with fail
            refine h1.mono ?_
            clear h1
            rintro e w11 ⟨rfl, hb16⟩
            replace hb16 := belOf (belOf hb14.out hb16) (bel_alloc w11 (.cells #[.int .i64 0, .int .i64 0, .int .i64 0] 51))
            clear hb14
            replace hb16 := Box.mk hb16
            go_wp2_with fail
            go_ret
            exact ⟨by first | rfl | simp, by first | exact hb16.out | (refine belOf hb16.out ?_; assumption)⟩
          | some v =>
            obtain ⟨TL, TI, TW⟩ := v
            have hv : Ti.parV s.data.toList = .tuple #[.agg #[.int .i64 TL, .int .i64 TI, .int .i64 TW], .int .i64 0] := by unfold Ti.parV Ti.tv; rw [hp6]
            rw [hv] at h1
            have hpt := Ti.pa_told hp6
            clear hv hp6
            go_wp2_with fail
            refine h1.mono ?_
            clear h1
            rintro e w11 ⟨rfl, hb16⟩
            replace hb16 := belOf (belOf hb14.out hb16) (bel_alloc w11 (.cells #[.int .i64 TL, .int .i64 TI, .int .i64 TW] 51))
            clear hb14
            have h1 := Ti.path_any TL TI TW B _ (gL.out _ hb16) (gN.out _ hb16).2
            unfold Ti.tv at h1
            rw [hpt] at h1
            clear hpt
            replace hb16 := Box.mk hb16
            go_wp2_with fail
            refine h1.mono ?_
            clear h1
            rintro e w12 ⟨rfl, hb17⟩
            replace hb16 := belOf hb16.out hb17
            clear hb17
            replace hb16 := Box.mk hb16
            go_wp2_with fail
            go_ret
            exact ⟨by first | rfl | simp, by first | exact hb16.out | (refine belOf hb16.out ?_; assumption)⟩
    | some ck =>
      rw [Nt.prV_some hp] at h1
      obtain ⟨hf, hz1, hz2⟩ := Nt.pc_told hp
      obtain ⟨co, cn, cr⟩ := ck
      dsimp only at h1 hf hz1 hz2
      clear hp
      go_wp2_with fail
      refine h1.mono ?_
      clear h1
      rintro e w4 ⟨rfl, hb5⟩
      replace hb5 := belOf (belOf hb4.out hb5) (bel_alloc w4 (.cells #[.string co, .int .i64 cn, .string cr] 23))
      have h1 := Nt.text_any ⟨co, cn, cr⟩ B _ (gN.out _ hb5).1 (gN.out _ hb5).2 (by show co.size ≤ _; omega) (by show cr.size ≤ _; omega)
      rw [hf] at h1
      unfold Nt.ckV at h1
      dsimp only at h1
      clear hf hz1 hz2
      replace hb5 := Box.mk hb5
      clear hb4
      go_wp2_with fail
      refine h1.mono ?_
      clear h1
      rintro e w5 ⟨rfl, hb6⟩
      have hb7 := belOf hb5.out hb6
      have h1 := Bi.read_any s w5 (gL.out w5 hb7).kis
      replace hb7 := Box.mk hb7
      clear hb5 hb6
      cases hq : Bi.acc (Bi.hdR s.data.toList) (Bi.kP (Bi.hdR s.data.toList)) with
      | false =>
        replace h1 := h1.mono fun e w' h => h.2 hq
        unfold Bi.BilIs at h1
        clear hq
        go_wp2_with fail
        refine h1.mono ?_
        clear h1
        rintro e w6 ⟨y, rfl, hT6, hb8⟩
        obtain ⟨a6, k6, rfl⟩ := hT6.shape
        simp only [List.length_nil] at hT6 ⊢
        have hX6 := bel_alloc w6 (.cells #[.int .i64 0, .int .i64 0, .int .i64 0, .string ⟨#[]⟩, .string ⟨#[]⟩, .slice a6 0 k6] 37)
        replace hb8 := belOf (belOf hb7.out hb8) hX6
        have h1 := Bi.bbytes_any 0 0 0 ⟨#[]⟩ ⟨#[]⟩ a6 0 k6 [] _ (Bi.txPA (hT6.here hX6) rfl) (gL.out _ hb8).kis
        obtain ⟨U, hU⟩ : ∃ F, Bi.bytT 0 0 0 ⟨#[]⟩ ⟨#[]⟩ [] = F := ⟨_, rfl⟩
        obtain ⟨UE, hUE⟩ : ∃ F, Bi.chkI 0 0 0 ⟨#[]⟩ ⟨#[]⟩ [] = F := ⟨_, rfl⟩
        rw [hU, hUE] at h1
        clear hU hUE
        replace hb8 := Box.mk hb8
        clear hb7 hT6 hX6
        go_wp2_with fail
        refine h1.mono ?_
        clear h1
        rintro e w7 ⟨rfl, hb9⟩
        have hb10 := belOf hb8.out hb9
        have h1 := Me.decode_any s B w7 (gN.out w7 hb10).1 (gN.out w7 hb10).2
        unfold Me.DecS at h1
        replace hb10 := Box.mk hb10
        clear hb8 hb9
        rcases Me.me_case s with ⟨D, hm, hen⟩ | hm
        · have hok : Me.DcOk D := by have := Me.dec_ok (l := s.data.toList); rw [hm] at this; exact this
          rw [hm] at h1
          dsimp only at h1
          clear hm
          replace hen := Box.mk hen
          replace hok := Box.mk hok
          go_wp2_with fail
          refine h1.mono ?_
          clear h1
          rintro e w8 ⟨⟨za, rfl, hra⟩, hb11⟩
          obtain ⟨b15, hb15, hZ15, hT15⟩ := @Me.store_var w8 D za
          go_wp2_with (refine Me.wpList_store_doc rfl (.tmp 15) (.tmp 134) rfl b15 D za (by first | rfl | (rw [← hb15]; rfl)) rfl hZ15.out rfl ?_; intro w9 hw9; obtain ⟨hM1, hM2⟩ := hT15.out w9 hw9; replace hM1 := Box.mk hM1; replace hM2 := Box.mk hM2; clear hw9 hT15 hZ15; refine Box.out ?_)
          obtain ⟨x134, hx134⟩ : ∃ x, Me.docV D za = x := ⟨_, rfl⟩
          rw [hx134]
          clear hx134
          refine ⟨?_⟩
          have hb12 := belOf (belOf hb10.out hb11) hM1.out
          have h1 := Me.encode_any D za B w9 (gN.out w9 hb12).1 (gN.out w9 hb12).2 (hra.below hM1.out).at_ hok.out
          rw [hen.out] at h1
          replace hb12 := Box.mk hb12
          clear hb10 hb11 hra hen hok

          go_wp2_with ((with_reducible show wpList _ _ _ (⟨some 155, _, _, _, _, _⟩ :: _) _ _); refine Box.out ?_)
          refine ⟨?_⟩
          refine Me.wpList_loadG (by rfl) 46 (.tmp 15) rfl b15 0 rfl (Me.docL D za) _ (Me.blk_range hM2.out) Tryz.underlying46 rfl (Me.doc_size _ _) ?_
          go_wp2_with fail
          refine h1.mono ?_
          clear h1
          rintro e w10 ⟨rfl, hb13⟩
          have hb14 := belOf hb12.out hb13
          have h1 := Ti.pparse_any s B w10 (gL.out w10 hb14) (gE.out w10 hb14) (gN.out w10 hb14).2 (by omega)
          replace hb14 := Box.mk hb14
          clear hb12 hb13 hb15 hM1 hM2
          cases hp6 : Ti.parseD s.data.toList with
          | none =>
            have hv : Ti.parV s.data.toList = .tuple #[.agg #[.int .i64 0, .int .i64 0, .int .i64 0], .int .i64 3] := by unfold Ti.parV Ti.tv; rw [hp6]
            rw [hv] at h1

            clear hv hp6
            go_wp2_with fail
            refine h1.mono ?_
            clear h1
            rintro e w11 ⟨rfl, hb16⟩
            replace hb16 := belOf (belOf hb14.out hb16) (bel_alloc w11 (.cells #[.int .i64 0, .int .i64 0, .int .i64 0] 51))
            clear hb14
            replace hb16 := Box.mk hb16
            go_wp2_with fail
            go_ret
            exact ⟨by first | rfl | simp, by first | exact hb16.out | (refine belOf hb16.out ?_; assumption)⟩
          | some v =>
            obtain ⟨TL, TI, TW⟩ := v
            have hv : Ti.parV s.data.toList = .tuple #[.agg #[.int .i64 TL, .int .i64 TI, .int .i64 TW], .int .i64 0] := by unfold Ti.parV Ti.tv; rw [hp6]
            rw [hv] at h1
            have hpt := Ti.pa_told hp6
            clear hv hp6
            go_wp2_with fail
            refine h1.mono ?_
            clear h1
            rintro e w11 ⟨rfl, hb16⟩
            replace hb16 := belOf (belOf hb14.out hb16) (bel_alloc w11 (.cells #[.int .i64 TL, .int .i64 TI, .int .i64 TW] 51))
            clear hb14
            have h1 := Ti.path_any TL TI TW B _ (gL.out _ hb16) (gN.out _ hb16).2
            unfold Ti.tv at h1
            rw [hpt] at h1
            clear hpt
            replace hb16 := Box.mk hb16
            go_wp2_with fail
            refine h1.mono ?_
            clear h1
            rintro e w12 ⟨rfl, hb17⟩
            replace hb16 := belOf hb16.out hb17
            clear hb17
            replace hb16 := Box.mk hb16
            go_wp2_with fail
            go_ret
            exact ⟨by first | rfl | simp, by first | exact hb16.out | (refine belOf hb16.out ?_; assumption)⟩
        · have hok : Me.DcOk Me.dc0 := by have := Me.dec_ok (l := s.data.toList); rw [hm] at this; exact this
          have hen : Me.encR Me.dc0 = .tuple #[.string ⟨#[]⟩, .int .i64 1] := by unfold Me.encR Me.encV; rw [show Me.chkD Me.dc0 = false from by decide]; rfl
          rw [hm] at h1
          dsimp only at h1
          clear hm
          replace hen := Box.mk hen
          replace hok := Box.mk hok
          go_wp2_with fail
          refine h1.mono ?_
          clear h1
          rintro e w8 ⟨⟨za, rfl, hra⟩, hb11⟩
          obtain ⟨b15, hb15, hZ15, hT15⟩ := @Me.store_var w8 Me.dc0 za
          go_wp2_with (refine Me.wpList_store_doc rfl (.tmp 15) (.tmp 134) rfl b15 Me.dc0 za (by first | rfl | (rw [← hb15]; rfl)) rfl hZ15.out rfl ?_; intro w9 hw9; obtain ⟨hM1, hM2⟩ := hT15.out w9 hw9; replace hM1 := Box.mk hM1; replace hM2 := Box.mk hM2; clear hw9 hT15 hZ15; refine Box.out ?_)
          obtain ⟨x134, hx134⟩ : ∃ x, Me.docV Me.dc0 za = x := ⟨_, rfl⟩
          rw [hx134]
          clear hx134
          refine ⟨?_⟩
          have hb12 := belOf (belOf hb10.out hb11) hM1.out
          have h1 := Me.encode_any Me.dc0 za B w9 (gN.out w9 hb12).1 (gN.out w9 hb12).2 (hra.below hM1.out).at_ hok.out
          rw [hen.out] at h1
          replace hb12 := Box.mk hb12
          clear hb10 hb11 hra hen hok
          have r0 : w9.cell? ⟨b15, 0, none⟩ = some (.int .i64 0) := Pk.Blk.cell hM2.out 0
          have r1 : w9.cell? ⟨b15, 1, none⟩ = some (.int .i64 0) := Pk.Blk.cell hM2.out 1
          have r15 : w9.cell? ⟨b15, 15, none⟩ = some (.slice za.al.1 0 za.al.2) := Pk.Blk.cell hM2.out 15
          go_wp2_with ((with_reducible show wpList _ _ _ (⟨some 155, _, _, _, _, _⟩ :: _) _ _); refine Box.out ?_)
          refine ⟨?_⟩
          refine Me.wpList_loadG (by rfl) 46 (.tmp 15) rfl b15 0 rfl (Me.docL Me.dc0 za) _ (Me.blk_range hM2.out) Tryz.underlying46 rfl (Me.doc_size _ _) ?_
          go_wp2_with fail
          refine h1.mono ?_
          clear h1
          rintro e w10 ⟨rfl, hb13⟩
          have hb14 := belOf hb12.out hb13
          have h1 := Ti.pparse_any s B w10 (gL.out w10 hb14) (gE.out w10 hb14) (gN.out w10 hb14).2 (by omega)
          replace hb14 := Box.mk hb14
          clear hb12 hb13 hb15 hM1 hM2 r0 r1 r15
          cases hp6 : Ti.parseD s.data.toList with
          | none =>
            have hv : Ti.parV s.data.toList = .tuple #[.agg #[.int .i64 0, .int .i64 0, .int .i64 0], .int .i64 3] := by unfold Ti.parV Ti.tv; rw [hp6]
            rw [hv] at h1

            clear hv hp6
            go_wp2_with fail
            refine h1.mono ?_
            clear h1
            rintro e w11 ⟨rfl, hb16⟩
            replace hb16 := belOf (belOf hb14.out hb16) (bel_alloc w11 (.cells #[.int .i64 0, .int .i64 0, .int .i64 0] 51))
            clear hb14
            replace hb16 := Box.mk hb16
            go_wp2_with fail
            go_ret
            exact ⟨by first | rfl | simp, by first | exact hb16.out | (refine belOf hb16.out ?_; assumption)⟩
          | some v =>
            obtain ⟨TL, TI, TW⟩ := v
            have hv : Ti.parV s.data.toList = .tuple #[.agg #[.int .i64 TL, .int .i64 TI, .int .i64 TW], .int .i64 0] := by unfold Ti.parV Ti.tv; rw [hp6]
            rw [hv] at h1
            have hpt := Ti.pa_told hp6
            clear hv hp6
            go_wp2_with fail
            refine h1.mono ?_
            clear h1
            rintro e w11 ⟨rfl, hb16⟩
            replace hb16 := belOf (belOf hb14.out hb16) (bel_alloc w11 (.cells #[.int .i64 TL, .int .i64 TI, .int .i64 TW] 51))
            clear hb14
            have h1 := Ti.path_any TL TI TW B _ (gL.out _ hb16) (gN.out _ hb16).2
            unfold Ti.tv at h1
            rw [hpt] at h1
            clear hpt
            replace hb16 := Box.mk hb16
            go_wp2_with fail
            refine h1.mono ?_
            clear h1
            rintro e w12 ⟨rfl, hb17⟩
            replace hb16 := belOf hb16.out hb17
            clear hb17
            replace hb16 := Box.mk hb16
            go_wp2_with fail
            go_ret
            exact ⟨by first | rfl | simp, by first | exact hb16.out | (refine belOf hb16.out ?_; assumption)⟩
      | true =>
        obtain ⟨k1, k2⟩ := Bi.acc_told _ _ hq
        replace h1 := h1.mono fun e w' h => h.1 hq
        unfold Bi.BilIs at h1
        obtain ⟨k3, k4⟩ := Bi.bytT_yes k1
        rw [k2] at k3
        obtain ⟨d, hd⟩ : ∃ d, Bi.hdR s.data.toList = d := ⟨_, rfl⟩
        rw [hd] at h1 k2 k4
        obtain ⟨L, hL⟩ : ∃ L, (Bi.hsR (Bi.kP d) d.l d.e).1 = L := ⟨_, rfl⟩
        rw [hL] at h1 k2 k4
        obtain ⟨V, S, C, H, T, l0, e0⟩ := d
        dsimp only at h1 k2 k4
        clear hq k1 k3 hd hL
        go_wp2_with fail
        refine h1.mono ?_
        clear h1
        rintro e w6 ⟨y, rfl, hT6, hb8⟩
        obtain ⟨a6, k6, rfl⟩ := hT6.shape
        obtain ⟨n6, hn6⟩ : ∃ n, L.length = n := ⟨_, rfl⟩
        rw [hn6] at hT6 ⊢
        have hX6 := bel_alloc w6 (.cells #[.int .i64 V, .int .i64 S, .int .i64 C, .string H, .string T, .slice a6 n6 k6] 37)
        replace hb8 := belOf (belOf hb7.out hb8) hX6
        have h1 := Bi.bbytes_any V S C H T a6 n6 k6 L _ (Bi.txPA (hT6.here hX6) hn6) (gL.out _ hb8).kis
        rw [k2, k4, show (⟨s.data.toList.toArray⟩ : ByteArray) = s from rfl] at h1
        clear k2 k4
        replace hb8 := Box.mk hb8
        clear hb7 hT6 hX6
        go_wp2_with fail
        refine h1.mono ?_
        clear h1
        rintro e w7 ⟨rfl, hb9⟩
        have hb10 := belOf hb8.out hb9
        have h1 := Me.decode_any s B w7 (gN.out w7 hb10).1 (gN.out w7 hb10).2
        unfold Me.DecS at h1
        replace hb10 := Box.mk hb10
        clear hb8 hb9
        rcases Me.me_case s with ⟨D, hm, hen⟩ | hm
        · have hok : Me.DcOk D := by have := Me.dec_ok (l := s.data.toList); rw [hm] at this; exact this
          rw [hm] at h1
          dsimp only at h1
          clear hm
          replace hen := Box.mk hen
          replace hok := Box.mk hok
          go_wp2_with fail
          refine h1.mono ?_
          clear h1
          rintro e w8 ⟨⟨za, rfl, hra⟩, hb11⟩
          obtain ⟨b15, hb15, hZ15, hT15⟩ := @Me.store_var w8 D za
          go_wp2_with (refine Me.wpList_store_doc rfl (.tmp 15) (.tmp 134) rfl b15 D za (by first | rfl | (rw [← hb15]; rfl)) rfl hZ15.out rfl ?_; intro w9 hw9; obtain ⟨hM1, hM2⟩ := hT15.out w9 hw9; replace hM1 := Box.mk hM1; replace hM2 := Box.mk hM2; clear hw9 hT15 hZ15; refine Box.out ?_)
          obtain ⟨x134, hx134⟩ : ∃ x, Me.docV D za = x := ⟨_, rfl⟩
          rw [hx134]
          clear hx134
          refine ⟨?_⟩
          have hb12 := belOf (belOf hb10.out hb11) hM1.out
          have h1 := Me.encode_any D za B w9 (gN.out w9 hb12).1 (gN.out w9 hb12).2 (hra.below hM1.out).at_ hok.out
          rw [hen.out] at h1
          replace hb12 := Box.mk hb12
          clear hb10 hb11 hra hen hok

          go_wp2_with ((with_reducible show wpList _ _ _ (⟨some 155, _, _, _, _, _⟩ :: _) _ _); refine Box.out ?_)
          refine ⟨?_⟩
          refine Me.wpList_loadG (by rfl) 46 (.tmp 15) rfl b15 0 rfl (Me.docL D za) _ (Me.blk_range hM2.out) Tryz.underlying46 rfl (Me.doc_size _ _) ?_
          go_wp2_with fail
          refine h1.mono ?_
          clear h1
          rintro e w10 ⟨rfl, hb13⟩
          have hb14 := belOf hb12.out hb13
          have h1 := Ti.pparse_any s B w10 (gL.out w10 hb14) (gE.out w10 hb14) (gN.out w10 hb14).2 (by omega)
          replace hb14 := Box.mk hb14
          clear hb12 hb13 hb15 hM1 hM2
          cases hp6 : Ti.parseD s.data.toList with
          | none =>
            have hv : Ti.parV s.data.toList = .tuple #[.agg #[.int .i64 0, .int .i64 0, .int .i64 0], .int .i64 3] := by unfold Ti.parV Ti.tv; rw [hp6]
            rw [hv] at h1

            clear hv hp6
            go_wp2_with fail
            refine h1.mono ?_
            clear h1
            rintro e w11 ⟨rfl, hb16⟩
            replace hb16 := belOf (belOf hb14.out hb16) (bel_alloc w11 (.cells #[.int .i64 0, .int .i64 0, .int .i64 0] 51))
            clear hb14
            replace hb16 := Box.mk hb16
            go_wp2_with fail
            go_ret
            exact ⟨by first | rfl | simp, by first | exact hb16.out | (refine belOf hb16.out ?_; assumption)⟩
          | some v =>
            obtain ⟨TL, TI, TW⟩ := v
            have hv : Ti.parV s.data.toList = .tuple #[.agg #[.int .i64 TL, .int .i64 TI, .int .i64 TW], .int .i64 0] := by unfold Ti.parV Ti.tv; rw [hp6]
            rw [hv] at h1
            have hpt := Ti.pa_told hp6
            clear hv hp6
            go_wp2_with fail
            refine h1.mono ?_
            clear h1
            rintro e w11 ⟨rfl, hb16⟩
            replace hb16 := belOf (belOf hb14.out hb16) (bel_alloc w11 (.cells #[.int .i64 TL, .int .i64 TI, .int .i64 TW] 51))
            clear hb14
            have h1 := Ti.path_any TL TI TW B _ (gL.out _ hb16) (gN.out _ hb16).2
            unfold Ti.tv at h1
            rw [hpt] at h1
            clear hpt
            replace hb16 := Box.mk hb16
            go_wp2_with fail
            refine h1.mono ?_
            clear h1
            rintro e w12 ⟨rfl, hb17⟩
            replace hb16 := belOf hb16.out hb17
            clear hb17
            replace hb16 := Box.mk hb16
            go_wp2_with fail
            go_ret
            exact ⟨by first | rfl | simp, by first | exact hb16.out | (refine belOf hb16.out ?_; assumption)⟩
        · have hok : Me.DcOk Me.dc0 := by have := Me.dec_ok (l := s.data.toList); rw [hm] at this; exact this
          have hen : Me.encR Me.dc0 = .tuple #[.string ⟨#[]⟩, .int .i64 1] := by unfold Me.encR Me.encV; rw [show Me.chkD Me.dc0 = false from by decide]; rfl
          rw [hm] at h1
          dsimp only at h1
          clear hm
          replace hen := Box.mk hen
          replace hok := Box.mk hok
          go_wp2_with fail
          refine h1.mono ?_
          clear h1
          rintro e w8 ⟨⟨za, rfl, hra⟩, hb11⟩
          obtain ⟨b15, hb15, hZ15, hT15⟩ := @Me.store_var w8 Me.dc0 za
          go_wp2_with (refine Me.wpList_store_doc rfl (.tmp 15) (.tmp 134) rfl b15 Me.dc0 za (by first | rfl | (rw [← hb15]; rfl)) rfl hZ15.out rfl ?_; intro w9 hw9; obtain ⟨hM1, hM2⟩ := hT15.out w9 hw9; replace hM1 := Box.mk hM1; replace hM2 := Box.mk hM2; clear hw9 hT15 hZ15; refine Box.out ?_)
          obtain ⟨x134, hx134⟩ : ∃ x, Me.docV Me.dc0 za = x := ⟨_, rfl⟩
          rw [hx134]
          clear hx134
          refine ⟨?_⟩
          have hb12 := belOf (belOf hb10.out hb11) hM1.out
          have h1 := Me.encode_any Me.dc0 za B w9 (gN.out w9 hb12).1 (gN.out w9 hb12).2 (hra.below hM1.out).at_ hok.out
          rw [hen.out] at h1
          replace hb12 := Box.mk hb12
          clear hb10 hb11 hra hen hok
          have r0 : w9.cell? ⟨b15, 0, none⟩ = some (.int .i64 0) := Pk.Blk.cell hM2.out 0
          have r1 : w9.cell? ⟨b15, 1, none⟩ = some (.int .i64 0) := Pk.Blk.cell hM2.out 1
          have r15 : w9.cell? ⟨b15, 15, none⟩ = some (.slice za.al.1 0 za.al.2) := Pk.Blk.cell hM2.out 15
          go_wp2_with ((with_reducible show wpList _ _ _ (⟨some 155, _, _, _, _, _⟩ :: _) _ _); refine Box.out ?_)
          refine ⟨?_⟩
          refine Me.wpList_loadG (by rfl) 46 (.tmp 15) rfl b15 0 rfl (Me.docL Me.dc0 za) _ (Me.blk_range hM2.out) Tryz.underlying46 rfl (Me.doc_size _ _) ?_
          go_wp2_with fail
          refine h1.mono ?_
          clear h1
          rintro e w10 ⟨rfl, hb13⟩
          have hb14 := belOf hb12.out hb13
          have h1 := Ti.pparse_any s B w10 (gL.out w10 hb14) (gE.out w10 hb14) (gN.out w10 hb14).2 (by omega)
          replace hb14 := Box.mk hb14
          clear hb12 hb13 hb15 hM1 hM2 r0 r1 r15
          cases hp6 : Ti.parseD s.data.toList with
          | none =>
            have hv : Ti.parV s.data.toList = .tuple #[.agg #[.int .i64 0, .int .i64 0, .int .i64 0], .int .i64 3] := by unfold Ti.parV Ti.tv; rw [hp6]
            rw [hv] at h1

            clear hv hp6
            go_wp2_with fail
            refine h1.mono ?_
            clear h1
            rintro e w11 ⟨rfl, hb16⟩
            replace hb16 := belOf (belOf hb14.out hb16) (bel_alloc w11 (.cells #[.int .i64 0, .int .i64 0, .int .i64 0] 51))
            clear hb14
            replace hb16 := Box.mk hb16
            go_wp2_with fail
            go_ret
            exact ⟨by first | rfl | simp, by first | exact hb16.out | (refine belOf hb16.out ?_; assumption)⟩
          | some v =>
            obtain ⟨TL, TI, TW⟩ := v
            have hv : Ti.parV s.data.toList = .tuple #[.agg #[.int .i64 TL, .int .i64 TI, .int .i64 TW], .int .i64 0] := by unfold Ti.parV Ti.tv; rw [hp6]
            rw [hv] at h1
            have hpt := Ti.pa_told hp6
            clear hv hp6
            go_wp2_with fail
            refine h1.mono ?_
            clear h1
            rintro e w11 ⟨rfl, hb16⟩
            replace hb16 := belOf (belOf hb14.out hb16) (bel_alloc w11 (.cells #[.int .i64 TL, .int .i64 TI, .int .i64 TW] 51))
            clear hb14
            have h1 := Ti.path_any TL TI TW B _ (gL.out _ hb16) (gN.out _ hb16).2
            unfold Ti.tv at h1
            rw [hpt] at h1
            clear hpt
            replace hb16 := Box.mk hb16
            go_wp2_with fail
            refine h1.mono ?_
            clear h1
            rintro e w12 ⟨rfl, hb17⟩
            replace hb16 := belOf hb16.out hb17
            clear hb17
            replace hb16 := Box.mk hb16
            go_wp2_with fail
            go_ret
            exact ⟨by first | rfl | simp, by first | exact hb16.out | (refine belOf hb16.out ?_; assumption)⟩
end Go.Proofs.YthkfefkcjcgfkaaGreatDoor.Tp
