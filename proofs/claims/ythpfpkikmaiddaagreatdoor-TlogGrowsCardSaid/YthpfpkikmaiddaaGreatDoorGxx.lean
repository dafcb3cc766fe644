/- Walk of the law TlogGrows. -/
import Derived.Test.YthpfpkikmaiddaaGreatDoorGtv
import Derived.Test.YthpfpkikmaiddaaGreatDoorGtq
set_option linter.all false
set_option linter.unusedVariables false
set_option linter.unusedSimpArgs false
namespace Go.Proofs.YthpfpkikmaiddaaGreatDoor.Tg
open Go Go.RowKit Go.Proofs.YthpfpkikmaiddaaGreatDoor.Pk Go.Proofs.YthpfpkikmaiddaaGreatDoor.Nt

theorem Env.up {w wb : World} (h : Env w) (hb : Below w.heap.size w wb) : Env wb :=
  ⟨⟨fun w2 h2 => h.nl.pis w2 (hb.trans (h2.mono hb.size)), (h.nlAt hb).s, (h.nlAt hb).r, (h.nlAt hb).m, Nat.lt_of_lt_of_le h.nl.ls hb.size, Nat.lt_of_lt_of_le h.nl.lr hb.size, Nat.lt_of_lt_of_le h.nl.lm hb.size⟩, h.kisAt hb⟩
theorem g_pushk {w0 w w' : World} {p : Pl} {D : Dev} {L : LogM} {bg : Nat} {vh v' : Value} {P : List ByteArray} {x : ByteArray} (hk : Kept w0 (Pair2 (TLx p 0 200 cG D L) (GX bg vh P)) w) (hp : PushedT 0 w vh (P ++ [x]) v' w') : Kept w0 (Pair2 (TLx p 0 200 cG D L) (GX bg v' (P ++ [x]))) w' :=
  kept_cv (kept_push (Pair2.good (BlO.good _ _ _) TLx.good) (kept_cv hk (cvSwap.trans cvAssoc)) hp) (cvAssoc'.trans cvSwap)
theorem g_row {w0 w : World} {p : Pl} {D : Dev} {L : LogM} {bg : Nat} {vh : Value} {P : List ByteArray} (hk : Kept w0 (Pair2 (TLx p 0 200 cG D L) (GX bg vh P)) w) : ∃ a c, vh = .slice a P.length c ∧ TxR 0 w vh P ∧ PA w a P.length c P := by
  obtain ⟨F, h1, _⟩ := kept_look (kept_cv hk (cvSwap.trans cvAssoc))
  obtain ⟨a, c, e, hP⟩ := txr_pa h1.1
  exact ⟨a, c, e, h1.1, hP⟩
theorem g_cfg {w0 w : World} {p : Pl} {D : Dev} {L : LogM} {bg : Nat} {vh : Value} {P : List ByteArray} (hk : Kept w0 (Pair2 (TLx p 0 200 cG D L) (GX bg vh P)) w) : Pk.Blk w bg [.string cG.o, .string cG.s, .int .i64 (cG.h : Int)] 33 := by
  obtain ⟨F, h1, _⟩ := kept_look (kept_cv hk (cvSwap.trans ((cvLeft cvSwap).trans cvAssoc)))
  exact h1.1
section
variable {w0 w : World} {bg i : Nat} {vh : Value} {p : Pl} {D : Dev} {L : LogM} {a n u : Option Bs}
theorem g_size (g : GI w0 bg i p D L a n u vh w) : Calls Tryz.prog 16 #[.pointer (some ⟨p.bl, 0, none⟩)] w fun e w' => e = .returned (.int .i64 (L.lv.length : Int)) ∧ w = w' := by
  obtain ⟨vl, vh2, vp, hk⟩ := tlx_open g.k
  exact tsize_any hk
theorem g_pend (g : GI w0 bg i p D L a n u vh w) : Calls Tryz.prog 17 #[.pointer (some ⟨p.bl, 0, none⟩)] w fun e w' => e = .returned (.int .i64 0) ∧ w = w' := by
  obtain ⟨vl, vh2, vp, hk⟩ := tlx_open g.k
  have := tpend_any hk
  rw [g.pd] at this
  exact this
theorem g_leaf (g : GI w0 bg i p D L a n u vh w) (k : Nat) (hk : k < L.lv.length) : Calls Tryz.prog 18 #[.pointer (some ⟨p.bl, 0, none⟩), .int .i64 (k : Int)] w fun e w' => e = .returned (.tuple #[.string (L.lv.getD k ByteArray.empty), .int .i64 0]) ∧ w = w' := by
  obtain ⟨vl, vh2, vp, hk2⟩ := tlx_open g.k
  have := tleaf_log hk2 (k : Int)
  unfold leafV at this
  rw [if_pos (by omega), Int.toNat_natCast] at this
  exact this
end
set_option maxHeartbeats 6400000 in
set_option maxRecDepth 100000 in
theorem law_grows (ls : List ByteArray) (a : Option Addr) (c : Nat) (fa : Option Addr) (fn fc : Nat) (kv : Value) (keep : List Int) (w : World) (hE : ∀ wb, Below w.heap.size w wb → Env wb) (hP : PA w a ls.length c ls) (hF : Pk.RowIn w fa fn Pk.IsU8) (_ : fn ≤ fc)
    (hI : Pk.Ints w (fun k => k < w.heap.size) kv keep) (hkl : keep.length ≤ 9223372036854775807) :
    Calls Tryz.prog 3 #[.slice a ls.length c, .slice fa fn fc, .agg #[kv]] w fun e w' => e = .returned (.bool true) ∧ Below w.heap.size w w' := by
  have hb0 := bel_alloc w (.cells #[kv] 26)
  obtain ⟨w0, hw0⟩ : ∃ x, w.alloc (.cells #[kv] 26) = x := ⟨_, rfl⟩
  have hkb : Pk.Blk w0 w.heap.size [kv] 26 := hw0 ▸ Pk.Blk.new w [kv] _
  rw [hw0] at hb0
  replace hE := hE w0 hb0
  have hL := Box.mk (logs_any w0 hE)
  have hO := Box.mk (fun bd w1 (X : Pk.Obj) (gX : Pk.Good X) (hk : Kept w0 (Pair2 (DevO bd (Dev.new 400)) X) w1) => topen_new hE gX cG cG_ok 400 0 200 (by decide) (by decide) (by decide) hk)
  replace hE := Box.mk hE
  replace hb0 := Box.mk hb0
  obtain ⟨n, hn⟩ : ∃ x, ls.length = x := ⟨_, rfl⟩
  rw [hn] at hP
  rw [hn]
  obtain ⟨M1, hM1⟩ : ∃ M, min n 20 = M := ⟨_, rfl⟩
  have hm1 : M1 ≤ n ∧ M1 ≤ 20 := by omega
  have hi1 : Box ((if (20 : Int) < (n : Int) then 20 else (n : Int)) = (M1 : Int)) := ⟨by split <;> omega⟩
  have hnc : n ≤ c := hP.cap
  clear hM1
  have hI2 : Box (Pk.Ints w0 (fun k => k < w0.heap.size) kv keep) := ⟨by
    obtain ⟨a, c, e, hc⟩ := (hI.chg (Pk.Chg.of_below hb0.out) fun k hk hk2 => by omega).out
    exact ⟨a, c, e, fun h0 => by
      obtain ⟨cb, co, e1, e2, e3, e4⟩ := hc h0
      exact ⟨cb, co, e1, e2, Nat.lt_of_lt_of_le e3 hb0.out.size, e4⟩⟩⟩
  have hlv : Box (0 < n → ∃ blk off, a = some ⟨blk, off, none⟩ ∧ blk < w0.heap.size ∧ ∀ j, j < n → w0.cell? ⟨blk, off + j, none⟩ = some (.string (ls.getD j ByteArray.empty))) := ⟨fun h0 => by
    obtain ⟨blk, off, e, hlt, hcell⟩ := hP.at_ h0
    exact ⟨blk, off, e, Nat.lt_of_lt_of_le hlt hb0.out.size, fun j hj => by rw [hb0.out.cell (p := ⟨blk, off + j, none⟩) hlt]; exact hcell j hj⟩⟩
  replace hF := Box.mk (hF.below hb0.out)
  replace hkb := Box.mk hkb
  have hbfl : Box (w.heap.size < w0.heap.size) := ⟨hkb.out.lt⟩
  obtain ⟨bf, hbf⟩ : ∃ x, w.heap.size = x := ⟨_, rfl⟩
  replace hb0 : Box (Below w.heap.size w w0) := hb0
  replace hkl := Box.mk hkl
  have hbfB := Box.mk hbf
  clear hP hI hn
  go_enter Tryz.func3, Tryz.ntmps3
  go_wp2_with fail
  refine hL.out.mono ?_
  clear hL hw0
  rintro e wa ⟨rfl, hba⟩
  have hN := newdev_kept hba.out 400 (by decide) (by decide)
  clear hba
  go_wp2_with fail
  refine hN.mono ?_
  clear hN
  rintro e w1 ⟨bd, rfl, hk1⟩
  have hG := config_low ⟨#[111]⟩ 2 w1 (by decide)
  unfold cfgV sLog at hG
  go_wp2_with fail
  refine hG.mono ?_
  clear hG
  rintro e w2 ⟨rfl, hb2⟩
  have hk2 := hk1.out.below (DevO.good _ _) hb2
  have hk3 := kept_new hk2 (DevO.good _ _) (BlO.good w2.heap.size [.string cG.o, .string cG.s, .int .i64 (cG.h : Int)] 33) (bel_alloc w2 (.cells #[.string cG.o, .string cG.s, .int .i64 (cG.h : Int)] 33))
    ⟨Pk.Blk.new w2 [.string cG.o, .string cG.s, .int .i64 (cG.h : Int)] _, ⟨Nat.le_refl _, (Pk.Blk.new w2 [.string cG.o, .string cG.s, .int .i64 (cG.h : Int)] _).lt⟩, fun _ hk => hk.2⟩
  obtain ⟨FB, hB1, _⟩ := kept_look hk3
  have hcb := Box.mk hB1.1
  have hG := hO.out bd _ (BlO w2.heap.size [.string cG.o, .string cG.s, .int .i64 (cG.h : Int)] 33) (BlO.good _ _ _) (kept_cv hk3 cvSwap)
  unfold cfgV cG sLog at hG
  clear hk1 hk2 hO hB1 hk3
  go_wp2_with fail
  refine hG.mono ?_
  clear hG
  rintro e w3 ⟨bl, bc, bk, rfl, hk4⟩
  obtain ⟨bg, hbg⟩ : ∃ x, w2.heap.size = x := ⟨_, rfl⟩
  have k0 : LogS 0 200 cG (Dev.new 400) ⟨Pk.M0, 0, [], []⟩ none none none := new_logS cG 400 0 200 (by decide) (by decide) (by decide)
  have hS : Box (∃ D L a n u, GI w0 bg 0 ⟨bd, bl, bc, bk⟩ D L a n u (.slice none 0 0) w3) := ⟨by
    refine ⟨Dev.new 400, ⟨Pk.M0, 0, [], []⟩, none, none, none, ?_, ⟨k0.snd, k0.now, k0.now, k0.ok⟩, rfl, by simp [Dev.new], rfl, ⟨.inl ⟨rfl, rfl⟩, fun x hx => by simp at hx, by simp, by simp [lvB], .inl ⟨rfl, rfl⟩, by decide⟩, Nat.zero_le _, new_bd 400, Nat.le_refl _, fun x hx => by simp at hx⟩
    have hk5 := kept_no (Pair2.good TLx.good (BlO.good _ _ _)) hk4.out
    rw [hbg] at hk5
    refine kept_cv hk5 (cvAssoc.trans (cvRight fun w F h => ?_))
    obtain ⟨F1, F2, h1, _, _, e1, _, hl⟩ := h
    exact ⟨fun _ => False, F1, ⟨TxR.nil _ _, fun k e => (by cases e), fun _ e => e.elim⟩, h1, fun _ e => e.elim, fun _ e => e.elim, e1, hl⟩⟩
  clear k0 hk4 hcb
  go_wp2_with (refine wpList_min2 rfl (.tmp 42) (.const (.int .i64 20)) 3 rfl (n : Int) 20 (M1 : Int) rfl rfl hi1.out ?_)
  go_loopw [46, 10, 12] (fun s46 s10 s12 wr => ∃ (i : Nat) (p : Pl) (D : Dev) (L : LogM) (a n u : Option Bs), i ≤ M1 ∧ s46 = .int .i64 i ∧ s10 = .pointer (some ⟨p.bl, 0, none⟩) ∧ p.bd = bd ∧ Box (GI w0 bg i p D L a n u s12 wr)) (fun s46 _ _ _ => M1 - (intOf s46).toNat)
  case atStart =>
    obtain ⟨D, L, a, n, u, hg⟩ := hS.out
    exact ⟨0, ⟨bd, bl, bc, bk⟩, D, L, a, n, u, by omega, rfl, rfl, rfl, ⟨hg⟩⟩
  case round =>
    clear hS
    obtain ⟨i, p, D, L, a4, n4, u4, hi, rfl, rfl, rfl, hK⟩ := hrel
    by_cases hlt : i < M1
    · obtain ⟨blk, off, rfl, hblt, hcs⟩ := hlv.out (by omega)
      have d0 := hcs i (by omega)
      rw [← hK.out.k.k.cell (p := ⟨blk, off + i, none⟩) hblt] at d0
      obtain ⟨s, hs⟩ : ∃ s, ls.getD i ByteArray.empty = s := ⟨_, rfl⟩
      rw [hs] at d0
      obtain ⟨q, hq⟩ : ∃ q, min s.size 200 = q := ⟨_, rfl⟩
      have hip : Box ((if (200 : Int) < (s.size : Int) then 200 else (s.size : Int)) = (q : Int)) := ⟨by split <;> omega⟩
      have hqs : q ≤ s.size := by omega
      have hxs : (s.extract 0 q).size ≤ 200 := by rw [ByteArray.size_extract]; omega
      clear hcs hq hs
      by_cases hf : i < fn
      · obtain ⟨cf, cg, rfl, hcf, hcs⟩ := hF.out.out (by omega)
        obtain ⟨_, e0, y, rfl⟩ := hcs i hf
        rw [← hK.out.k.k.cell (p := ⟨cf, _, none⟩) hcf] at e0
        have hy : (0 : Int) ≤ ((y.toNat : Int)).tmod 60 ∧ ((y.toNat : Int)).tmod 60 ≤ 60 := by
          have : ((y.toNat : Int)).tmod 60 = (y.toNat : Int) % 60 := Int.tmod_eq_emod_of_nonneg (by omega)
          rw [this]; omega
        have hFa := Box.mk (g_fall hK.out _ hy)
        clear hcs
        go_wp2_with (refine wpList_min2 rfl (.tmp 53) (.const (.int .i64 200)) 3 rfl (s.size : Int) 200 (q : Int) rfl rfl hip.out ?_)
        refine hFa.out.mono ?_
        rintro e wx ⟨rfl, D1, hGF⟩
        generalize s.extract 0 q = x at hxs ⊢
        replace hGF := Box.mk hGF
        clear hFa hK d0 e0 hip hqs hy
        have hA := g_wait hGF.out x hxs (by omega)
        clear hGF
        go_wp2_with fail
        refine hA.mono ?_
        clear hA
        rintro e wy ⟨rfl, L1, hGA⟩
        have hQ := g_sq hE.out hGA (by omega)
        obtain ⟨P, hP⟩ : ∃ P, L.lv = P := ⟨_, rfl⟩
        rw [hP] at hQ hGA
        clear hP
        go_wp2_with fail
        refine hQ.mono ?_
        clear hQ
        rintro e wz (⟨rfl, D2, L2, hk2, hr2, e1, e2, e3, e4, hbd⟩ | ⟨rfl, D2, L2, hGO⟩)
        · obtain ⟨av, cv, rfl, hrow, hPA⟩ := g_row hk2
          have hfewP := hGA.few
          have hsz := Box.mk hGA.sz
          have hsays := Box.mk hGA.s
          have hnl := hGA.nl
          clear hPA
          have hz := Box.mk (parts_new wz [x] 9)
          have hb2 := bel_alloc wz (.cells #[.string x] 9)
          have hrow3 := Box.mk (hrow.here hb2)
          have hk3 := Box.mk (hk2.below (Pair2.good TLx.good (GX.good _ _ _)) hb2)
          have hlim : Box ((P.length + 1) * 16 ≤ 140737488355328) := ⟨by omega⟩
          have hGS : Box (∀ vo w4, PushedT 0 (wz.alloc (.cells #[.string x] 9)) (.slice av P.length cv) (P ++ [x]) vo w4 → GS w0 bg i p D2 L2 (some (lvB (P ++ [x]))) n4 u4 vo w4) := ⟨fun vo w4 hp =>
            ⟨by rw [e1]; exact g_pushk hk3.out hp, hr2, e2, e4, by rw [e1, e3]; exact says_snoc hsays.out x hsz.out (by simp; omega), hnl, hbd, by rw [e1]; simp; omega, by rw [e1]; exact hsz.out⟩⟩
          obtain ⟨N, hN⟩ : ∃ N, P.length = N := ⟨_, rfl⟩
          rw [hN] at hrow3 hGS hlim ⊢
          have hlv2 := Box.mk e1
          have hPx : Box ((P ++ [x]).length = N + 1) := ⟨by simp [hN]⟩
          clear hGA hk2 hrow hk3 hb2 e2 e3 e4 hbd hr2 hN e1
          go_wp2_with (refine wpList_pushT rfl (.tmp 79) (.tmp 81) rfl 0 _ _ [x] rfl hrow3.out (Nat.zero_le _) (some ⟨wz.heap.size, 0, none⟩) 1 1 rfl rfl hz.out (by rw [show P.length = N from by have := hPx.out; simp at this; exact this]; exact hlim.out) ?_; intro vo w4 hpush; have hGS4 := Box.mk (hGS.out _ _ hpush); obtain ⟨a3, c3, rfl⟩ : ∃ a c, vo = .slice a (N + 1) c := (by obtain ⟨a, c, e⟩ := hpush.row.shape; exact ⟨a, c, by rw [e, hPx.out]⟩); clear hpush hGS)
          have hG := g_is hE.out hGS4.out (by omega)
          clear hGS4 hz hrow3
          go_wp2_with fail
          refine hG.mono ?_
          clear hG
          rintro e w5 ⟨t, E, rfl, hR⟩
          rcases hR.out with ⟨D3, L3, a3', n3', u3', hGR, hl3⟩ | ⟨D3, L3, hGO2⟩
          · clear hR
            have hG := g_on hGR
            clear hGR
            go_wp2_with fail
            refine hG.mono ?_
            clear hG
            rintro e w6 ⟨rfl, hGR2⟩
            have hG := g_calm hGR2.out
            clear hGR2
            go_wp2_with fail
            refine hG.mono ?_
            clear hG
            rintro e w7 ⟨rfl, D4, hGI⟩
            replace hGI := Box.mk hGI
            go_wp2_with fail
            exact ⟨⟨i + 1, p, D4, L3, a3', n3', u3', by omega, by go_num, rfl, rfl, hGI⟩, by simp [intOf]; omega⟩
          · clear hR
            have hG := g_gone hGO2
            clear hGO2
            go_wp2_with fail
            refine hG.mono ?_
            clear hG
            rintro e w7 ⟨rfl, hGO3⟩
            have c0 : w7.cell? ⟨bf, 0, none⟩ = some kv := by rw [hGO3.out.k.k.cell (p := ⟨bf, 0, none⟩) (by rw [← hbfB.out]; exact hbfl.out), ← hbfB.out]; exact hkb.out.cell 0
            have hG := g_crash hGO3.out keep hI2.out hkl.out (by omega)
            clear hGO3
            go_wp2_with fail
            refine hG.mono ?_
            clear hG
            rintro e w8 ⟨rfl, D8, hGB⟩
            have hcf := g_cfg hGB.k
            have f0 : w8.cell? ⟨bg, 0, none⟩ = some (.string cG.o) := hcf.cell 0
            have f1 : w8.cell? ⟨bg, 1, none⟩ = some (.string cG.s) := hcf.cell 1
            have f2 : w8.cell? ⟨bg, 2, none⟩ = some (.int .i64 (cG.h : Int)) := hcf.cell 2
            have hG := g_open hE.out hGB
            replace hcf := Box.mk hcf
            have hf8 := hGB.f
            have hl8 := hGB.len
            clear hGB c0
            go_wp2_with fail
            refine hG.mono ?_
            clear hG
            rintro e w9 ⟨p', hp', rfl, L9, a9, n9, u9, hk9, hr9, hpd9, hs9, hn9, hb9, hQ9⟩
            have hN9 : L9.lv.length = N + 1 := by rw [hQ9, hlv2.out]; exact hPx.out
            have hGI : Box (GI w0 bg (i + 1) p' D8 L9 a9 n9 u9 (.slice a3 (N + 1) c3) w9) := ⟨⟨by rw [hQ9]; exact hk9, hr9, hf8, hl8, hpd9, hs9, hn9, hb9, by rw [hN9]; have := hfewP; have := hPx.out; simp at this; omega, by rw [hQ9, hlv2.out]; exact hsz.out⟩⟩
            clear f0 f1 f2 hcf hk9 hr9 hpd9 hs9 hn9 hb9 hf8 hl8
            have hG := g_size hGI.out
            rw [hN9] at hG
            go_wp2_with fail
            refine hG.mono ?_
            clear hG
            rintro e wl ⟨rfl, rfl⟩
            have hG := g_pend hGI.out
            go_wp2_with fail
            refine hG.mono ?_
            clear hG
            rintro e wl ⟨rfl, rfl⟩
            go_wp2_with fail
            go_loopw [131] (fun s131 wr => ∃ k : Nat, k ≤ N + 1 ∧ s131 = .int .i64 k ∧ Box (GI w0 bg (i + 1) p' D8 L9 a9 n9 u9 (.slice a3 (N + 1) c3) wr)) (fun s131 _ => N + 1 - (intOf s131).toNat)
            case atStart => exact ⟨0, by omega, rfl, hGI⟩
            case round =>
              clear hGI
              obtain ⟨k, hk, rfl, hGI⟩ := hrel
              by_cases hkl9 : k < N + 1
              · obtain ⟨av9, cv9, hv9, hrow9, hPA9⟩ := g_row hGI.out.k
                injection hv9 with h91 h92 h93
                subst h91 h93
                obtain ⟨blk9, off9, rfl, hlt9, hc9⟩ := hPA9.at_ (by omega)
                have d9 := hc9 k (by omega)
                have hLf := g_leaf hGI.out k (by omega)
                obtain ⟨y9, hy9⟩ : ∃ y, L9.lv.getD k ByteArray.empty = y := ⟨_, rfl⟩
                rw [hy9] at d9 hLf
                have hki : (k : Int) < ((N + 1 : Nat) : Int) := by omega
                have hN21 : N ≤ 20 := by have := hPx.out; simp at this; omega
                clear hrow9 hPA9 hc9 hy9 h92
                go_wp2_with fail
                refine hLf.mono ?_
                clear hLf
                rintro e wl ⟨rfl, rfl⟩
                go_wp2_with fail
                exact ⟨⟨k + 1, by omega, by go_num, hGI⟩, by simp [intOf]; omega⟩
              · have hkN : k = N + 1 := by omega
                subst hkN
                clear hkl9
                go_wp2_with fail
                exact ⟨⟨i + 1, p', D8, L9, a9, n9, u9, by omega, by go_num, rfl, hp', hGI⟩, by simp [intOf]; omega⟩
        · obtain ⟨av, cv, rfl, hrow, hPA⟩ := g_row hGO.k
          have hfewP := hGA.few
          have hsz := Box.mk hGA.sz
          clear hrow hPA hGA
          obtain ⟨N, hN⟩ : ∃ N, P.length = N := ⟨_, rfl⟩
          rw [hN] at hGO hfewP ⊢
          have hPN : Box (P.length = N) := ⟨hN⟩
          have hPx : Box ((P ++ [x]).length = N + 1) := ⟨by simp [hN]⟩
          clear hN
          have hG := g_gone hGO
          clear hGO
          go_wp2_with fail
          refine hG.mono ?_
          clear hG
          rintro e w7 ⟨rfl, hGO3⟩
          have c0 : w7.cell? ⟨bf, 0, none⟩ = some kv := by rw [hGO3.out.k.k.cell (p := ⟨bf, 0, none⟩) (by rw [← hbfB.out]; exact hbfl.out), ← hbfB.out]; exact hkb.out.cell 0
          have hG := g_crash hGO3.out keep hI2.out hkl.out (by omega)
          clear hGO3
          go_wp2_with fail
          refine hG.mono ?_
          clear hG
          rintro e w8 ⟨rfl, D8, hGB⟩
          have hcf := g_cfg hGB.k
          have f0 : w8.cell? ⟨bg, 0, none⟩ = some (.string cG.o) := hcf.cell 0
          have f1 : w8.cell? ⟨bg, 1, none⟩ = some (.string cG.s) := hcf.cell 1
          have f2 : w8.cell? ⟨bg, 2, none⟩ = some (.int .i64 (cG.h : Int)) := hcf.cell 2
          have hG := g_open hE.out hGB
          replace hcf := Box.mk hcf
          have hf8 := hGB.f
          have hl8 := hGB.len
          clear hGB c0
          go_wp2_with fail
          refine hG.mono ?_
          clear hG
          rintro e w9 ⟨p', hp', rfl, L9, a9, n9, u9, hk9, hr9, hpd9, hs9, hn9, hb9, hQ9⟩
          clear f0 f1 f2 hcf
          rcases hQ9 with hQ9 | hQ9
          · have hN9 : L9.lv.length = N := by rw [hQ9]; exact hPN.out
            have hGI : Box (GI w0 bg (i + 1) p' D8 L9 a9 n9 u9 (.slice av N cv) w9) := ⟨⟨by rw [hQ9]; exact hk9, hr9, hf8, hl8, hpd9, hs9, hn9, hb9, by rw [hN9]; omega, by rw [hQ9]; exact fun y hy => hsz.out y (List.mem_append_left _ hy)⟩⟩
            clear hk9 hr9 hpd9 hs9 hn9 hb9 hf8 hl8
            have hG := g_size hGI.out
            rw [hN9] at hG
            go_wp2_with fail
            refine hG.mono ?_
            clear hG
            rintro e wl ⟨rfl, rfl⟩
            have hG := g_size hGI.out
            rw [hN9] at hG
            go_wp2_with fail
            refine hG.mono ?_
            clear hG
            rintro e wl ⟨rfl, rfl⟩
            have hG := g_pend hGI.out
            go_wp2_with fail
            refine hG.mono ?_
            clear hG
            rintro e wl ⟨rfl, rfl⟩
            go_wp2_with fail
            go_loopw [131] (fun s131 wr => ∃ k : Nat, k ≤ N ∧ s131 = .int .i64 k ∧ Box (GI w0 bg (i + 1) p' D8 L9 a9 n9 u9 (.slice av N cv) wr)) (fun s131 _ => N - (intOf s131).toNat)
            case atStart => exact ⟨0, by omega, rfl, hGI⟩
            case round =>
              clear hGI
              obtain ⟨k, hk, rfl, hGI⟩ := hrel
              by_cases hkl9 : k < N
              · obtain ⟨av9, cv9, hv9, hrow9, hPA9⟩ := g_row hGI.out.k
                injection hv9 with h91 h92 h93
                subst h91 h93
                obtain ⟨blk9, off9, rfl, hlt9, hc9⟩ := hPA9.at_ (by omega)
                have d9 := hc9 k (by omega)
                have hLf := g_leaf hGI.out k (by omega)
                obtain ⟨y9, hy9⟩ : ∃ y, L9.lv.getD k ByteArray.empty = y := ⟨_, rfl⟩
                rw [hy9] at d9 hLf
                have hki : (k : Int) < (N : Int) := by omega
                have hN21 : N ≤ 20 := by omega
                clear hrow9 hPA9 hc9 hy9 h92
                go_wp2_with fail
                refine hLf.mono ?_
                clear hLf
                rintro e wl ⟨rfl, rfl⟩
                go_wp2_with fail
                exact ⟨⟨k + 1, by omega, by go_num, hGI⟩, by simp [intOf]; omega⟩
              · have hkN : k = N := by omega
                subst hkN
                clear hkl9
                go_wp2_with fail
                exact ⟨⟨i + 1, p', D8, L9, a9, n9, u9, by omega, by go_num, rfl, hp', hGI⟩, by simp [intOf]; omega⟩
          · have hN9 : L9.lv.length = N + 1 := by rw [hQ9]; exact hPx.out
            have hG : Calls Tryz.prog 16 #[.pointer (some ⟨p'.bl, 0, none⟩)] w9 fun e w' => e = .returned (.int .i64 (L9.lv.length : Int)) ∧ w9 = w' := by
              obtain ⟨vl, vh2, vp, hk⟩ := tlx_open hk9
              exact tsize_any hk
            rw [hN9] at hG
            obtain ⟨av', cv', hv', hrow, hPA⟩ := g_row hk9
            injection hv' with h91 h92 h93
            subst h91 h93
            have hz := Box.mk (parts_new w9 [x] 9)
            have hb2 := bel_alloc w9 (.cells #[.string x] 9)
            have hrow3 := Box.mk (hrow.here hb2)
            have hk3 := Box.mk (hk9.below (Pair2.good TLx.good (GX.good _ _ _)) hb2)
            have hGS : Box (∀ vo w4, PushedT 0 (w9.alloc (.cells #[.string x] 9)) (.slice av N cv) (P ++ [x]) vo w4 → GI w0 bg (i + 1) p' D8 L9 a9 n9 u9 vo w4) := ⟨fun vo w4 hp =>
              ⟨by rw [hQ9]; exact g_pushk hk3.out hp, hr9, hf8, hl8, hpd9, hs9, hn9, hb9, by rw [hN9]; omega, by rw [hQ9]; exact hsz.out⟩⟩
            have hlim : Box ((P.length + 1) * 16 ≤ 140737488355328) := ⟨by rw [hPN.out]; omega⟩
            clear hk9 hr9 hpd9 hs9 hn9 hb9 hf8 hl8 hrow hPA h92 hk3 hb2
            have hN21 : N ≤ 20 := by omega
            go_wp2_with fail
            refine hG.mono ?_
            clear hG
            rintro e wl ⟨rfl, rfl⟩
            go_wp2_with (refine wpList_pushT rfl (.tmp 115) (.tmp 117) rfl 0 _ _ [x] rfl hrow3.out (Nat.zero_le _) (some ⟨w9.heap.size, 0, none⟩) 1 1 rfl rfl hz.out hlim.out ?_; intro vo w4 hpush; have hGI := Box.mk (hGS.out _ _ hpush); obtain ⟨a3, c3, rfl⟩ : ∃ a c, vo = .slice a (N + 1) c := (by obtain ⟨a, c, e⟩ := hpush.row.shape; exact ⟨a, c, by rw [e, hPx.out]⟩); clear hpush hGS)
            have hG := g_size hGI.out
            rw [hN9] at hG
            refine hG.mono ?_
            clear hG hz hrow3
            rintro e wl ⟨rfl, rfl⟩
            have hG := g_pend hGI.out
            go_wp2_with fail
            refine hG.mono ?_
            clear hG
            rintro e wl ⟨rfl, rfl⟩
            go_wp2_with fail
            go_loopw [131] (fun s131 wr => ∃ k : Nat, k ≤ N + 1 ∧ s131 = .int .i64 k ∧ Box (GI w0 bg (i + 1) p' D8 L9 a9 n9 u9 (.slice a3 (N + 1) c3) wr)) (fun s131 _ => N + 1 - (intOf s131).toNat)
            case atStart => exact ⟨0, by omega, rfl, hGI⟩
            case round =>
              clear hGI
              obtain ⟨k, hk, rfl, hGI⟩ := hrel
              by_cases hkl9 : k < N + 1
              · obtain ⟨av9, cv9, hv9, hrow9, hPA9⟩ := g_row hGI.out.k
                injection hv9 with h91 h92 h93
                subst h91 h93
                obtain ⟨blk9, off9, rfl, hlt9, hc9⟩ := hPA9.at_ (by omega)
                have d9 := hc9 k (by omega)
                have hLf := g_leaf hGI.out k (by omega)
                obtain ⟨y9, hy9⟩ : ∃ y, L9.lv.getD k ByteArray.empty = y := ⟨_, rfl⟩
                rw [hy9] at d9 hLf
                have hki : (k : Int) < ((N + 1 : Nat) : Int) := by omega
                clear hrow9 hPA9 hc9 hy9 h92
                go_wp2_with fail
                refine hLf.mono ?_
                clear hLf
                rintro e wl ⟨rfl, rfl⟩
                go_wp2_with fail
                exact ⟨⟨k + 1, by omega, by go_num, hGI⟩, by simp [intOf]; omega⟩
              · have hkN : k = N + 1 := by omega
                subst hkN
                clear hkl9
                go_wp2_with fail
                exact ⟨⟨i + 1, p', D8, L9, a9, n9, u9, by omega, by go_num, rfl, hp', hGI⟩, by simp [intOf]; omega⟩
      · have hGF := Box.mk hK.out.gf
        generalize hx : s.extract 0 q = x at hxs
        have hA := g_wait hGF.out x hxs (by omega)
        have hfi : ¬ (i : Int) < (fn : Int) := by omega
        clear hGF hf
        go_wp2_with (refine wpList_min2 rfl (.tmp 53) (.const (.int .i64 200)) 3 rfl (s.size : Int) 200 (q : Int) rfl rfl hip.out ?_)
        clear hK d0 hip hqs hx
        refine hA.mono ?_
        clear hA
        rintro e wy ⟨rfl, L1, hGA⟩
        have hQ := g_sq hE.out hGA (by omega)
        obtain ⟨P, hP⟩ : ∃ P, L.lv = P := ⟨_, rfl⟩
        rw [hP] at hQ hGA
        clear hP
        go_wp2_with fail
        refine hQ.mono ?_
        clear hQ
        rintro e wz (⟨rfl, D2, L2, hk2, hr2, e1, e2, e3, e4, hbd⟩ | ⟨rfl, D2, L2, hGO⟩)
        · obtain ⟨av, cv, rfl, hrow, hPA⟩ := g_row hk2
          have hfewP := hGA.few
          have hsz := Box.mk hGA.sz
          have hsays := Box.mk hGA.s
          have hnl := hGA.nl
          clear hPA
          have hz := Box.mk (parts_new wz [x] 9)
          have hb2 := bel_alloc wz (.cells #[.string x] 9)
          have hrow3 := Box.mk (hrow.here hb2)
          have hk3 := Box.mk (hk2.below (Pair2.good TLx.good (GX.good _ _ _)) hb2)
          have hlim : Box ((P.length + 1) * 16 ≤ 140737488355328) := ⟨by omega⟩
          have hGS : Box (∀ vo w4, PushedT 0 (wz.alloc (.cells #[.string x] 9)) (.slice av P.length cv) (P ++ [x]) vo w4 → GS w0 bg i p D2 L2 (some (lvB (P ++ [x]))) n4 u4 vo w4) := ⟨fun vo w4 hp =>
            ⟨by rw [e1]; exact g_pushk hk3.out hp, hr2, e2, e4, by rw [e1, e3]; exact says_snoc hsays.out x hsz.out (by simp; omega), hnl, hbd, by rw [e1]; simp; omega, by rw [e1]; exact hsz.out⟩⟩
          obtain ⟨N, hN⟩ : ∃ N, P.length = N := ⟨_, rfl⟩
          rw [hN] at hrow3 hGS hlim ⊢
          have hlv2 := Box.mk e1
          have hPx : Box ((P ++ [x]).length = N + 1) := ⟨by simp [hN]⟩
          clear hGA hk2 hrow hk3 hb2 e2 e3 e4 hbd hr2 hN e1
          go_wp2_with (refine wpList_pushT rfl (.tmp 79) (.tmp 81) rfl 0 _ _ [x] rfl hrow3.out (Nat.zero_le _) (some ⟨wz.heap.size, 0, none⟩) 1 1 rfl rfl hz.out (by rw [show P.length = N from by have := hPx.out; simp at this; exact this]; exact hlim.out) ?_; intro vo w4 hpush; have hGS4 := Box.mk (hGS.out _ _ hpush); obtain ⟨a3, c3, rfl⟩ : ∃ a c, vo = .slice a (N + 1) c := (by obtain ⟨a, c, e⟩ := hpush.row.shape; exact ⟨a, c, by rw [e, hPx.out]⟩); clear hpush hGS)
          have hG := g_is hE.out hGS4.out (by omega)
          clear hGS4 hz hrow3
          go_wp2_with fail
          refine hG.mono ?_
          clear hG
          rintro e w5 ⟨t, E, rfl, hR⟩
          rcases hR.out with ⟨D3, L3, a3', n3', u3', hGR, hl3⟩ | ⟨D3, L3, hGO2⟩
          · clear hR
            have hG := g_on hGR
            clear hGR
            go_wp2_with fail
            refine hG.mono ?_
            clear hG
            rintro e w6 ⟨rfl, hGR2⟩
            have hG := g_calm hGR2.out
            clear hGR2
            go_wp2_with fail
            refine hG.mono ?_
            clear hG
            rintro e w7 ⟨rfl, D4, hGI⟩
            replace hGI := Box.mk hGI
            go_wp2_with fail
            exact ⟨⟨i + 1, p, D4, L3, a3', n3', u3', by omega, by go_num, rfl, rfl, hGI⟩, by simp [intOf]; omega⟩
          · clear hR
            have hG := g_gone hGO2
            clear hGO2
            go_wp2_with fail
            refine hG.mono ?_
            clear hG
            rintro e w7 ⟨rfl, hGO3⟩
            have c0 : w7.cell? ⟨bf, 0, none⟩ = some kv := by rw [hGO3.out.k.k.cell (p := ⟨bf, 0, none⟩) (by rw [← hbfB.out]; exact hbfl.out), ← hbfB.out]; exact hkb.out.cell 0
            have hG := g_crash hGO3.out keep hI2.out hkl.out (by omega)
            clear hGO3
            go_wp2_with fail
            refine hG.mono ?_
            clear hG
            rintro e w8 ⟨rfl, D8, hGB⟩
            have hcf := g_cfg hGB.k
            have f0 : w8.cell? ⟨bg, 0, none⟩ = some (.string cG.o) := hcf.cell 0
            have f1 : w8.cell? ⟨bg, 1, none⟩ = some (.string cG.s) := hcf.cell 1
            have f2 : w8.cell? ⟨bg, 2, none⟩ = some (.int .i64 (cG.h : Int)) := hcf.cell 2
            have hG := g_open hE.out hGB
            replace hcf := Box.mk hcf
            have hf8 := hGB.f
            have hl8 := hGB.len
            clear hGB c0
            go_wp2_with fail
            refine hG.mono ?_
            clear hG
            rintro e w9 ⟨p', hp', rfl, L9, a9, n9, u9, hk9, hr9, hpd9, hs9, hn9, hb9, hQ9⟩
            have hN9 : L9.lv.length = N + 1 := by rw [hQ9, hlv2.out]; exact hPx.out
            have hGI : Box (GI w0 bg (i + 1) p' D8 L9 a9 n9 u9 (.slice a3 (N + 1) c3) w9) := ⟨⟨by rw [hQ9]; exact hk9, hr9, hf8, hl8, hpd9, hs9, hn9, hb9, by rw [hN9]; have := hfewP; have := hPx.out; simp at this; omega, by rw [hQ9, hlv2.out]; exact hsz.out⟩⟩
            clear f0 f1 f2 hcf hk9 hr9 hpd9 hs9 hn9 hb9 hf8 hl8
            have hG := g_size hGI.out
            rw [hN9] at hG
            go_wp2_with fail
            refine hG.mono ?_
            clear hG
            rintro e wl ⟨rfl, rfl⟩
            have hG := g_pend hGI.out
            go_wp2_with fail
            refine hG.mono ?_
            clear hG
            rintro e wl ⟨rfl, rfl⟩
            go_wp2_with fail
            go_loopw [131] (fun s131 wr => ∃ k : Nat, k ≤ N + 1 ∧ s131 = .int .i64 k ∧ Box (GI w0 bg (i + 1) p' D8 L9 a9 n9 u9 (.slice a3 (N + 1) c3) wr)) (fun s131 _ => N + 1 - (intOf s131).toNat)
            case atStart => exact ⟨0, by omega, rfl, hGI⟩
            case round =>
              clear hGI
              obtain ⟨k, hk, rfl, hGI⟩ := hrel
              by_cases hkl9 : k < N + 1
              · obtain ⟨av9, cv9, hv9, hrow9, hPA9⟩ := g_row hGI.out.k
                injection hv9 with h91 h92 h93
                subst h91 h93
                obtain ⟨blk9, off9, rfl, hlt9, hc9⟩ := hPA9.at_ (by omega)
                have d9 := hc9 k (by omega)
                have hLf := g_leaf hGI.out k (by omega)
                obtain ⟨y9, hy9⟩ : ∃ y, L9.lv.getD k ByteArray.empty = y := ⟨_, rfl⟩
                rw [hy9] at d9 hLf
                have hki : (k : Int) < ((N + 1 : Nat) : Int) := by omega
                have hN21 : N ≤ 20 := by have := hPx.out; simp at this; omega
                clear hrow9 hPA9 hc9 hy9 h92
                go_wp2_with fail
                refine hLf.mono ?_
                clear hLf
                rintro e wl ⟨rfl, rfl⟩
                go_wp2_with fail
                exact ⟨⟨k + 1, by omega, by go_num, hGI⟩, by simp [intOf]; omega⟩
              · have hkN : k = N + 1 := by omega
                subst hkN
                clear hkl9
                go_wp2_with fail
                exact ⟨⟨i + 1, p', D8, L9, a9, n9, u9, by omega, by go_num, rfl, hp', hGI⟩, by simp [intOf]; omega⟩
        · obtain ⟨av, cv, rfl, hrow, hPA⟩ := g_row hGO.k
          have hfewP := hGA.few
          have hsz := Box.mk hGA.sz
          clear hrow hPA hGA
          obtain ⟨N, hN⟩ : ∃ N, P.length = N := ⟨_, rfl⟩
          rw [hN] at hGO hfewP ⊢
          have hPN : Box (P.length = N) := ⟨hN⟩
          have hPx : Box ((P ++ [x]).length = N + 1) := ⟨by simp [hN]⟩
          clear hN
          have hG := g_gone hGO
          clear hGO
          go_wp2_with fail
          refine hG.mono ?_
          clear hG
          rintro e w7 ⟨rfl, hGO3⟩
          have c0 : w7.cell? ⟨bf, 0, none⟩ = some kv := by rw [hGO3.out.k.k.cell (p := ⟨bf, 0, none⟩) (by rw [← hbfB.out]; exact hbfl.out), ← hbfB.out]; exact hkb.out.cell 0
          have hG := g_crash hGO3.out keep hI2.out hkl.out (by omega)
          clear hGO3
          go_wp2_with fail
          refine hG.mono ?_
          clear hG
          rintro e w8 ⟨rfl, D8, hGB⟩
          have hcf := g_cfg hGB.k
          have f0 : w8.cell? ⟨bg, 0, none⟩ = some (.string cG.o) := hcf.cell 0
          have f1 : w8.cell? ⟨bg, 1, none⟩ = some (.string cG.s) := hcf.cell 1
          have f2 : w8.cell? ⟨bg, 2, none⟩ = some (.int .i64 (cG.h : Int)) := hcf.cell 2
          have hG := g_open hE.out hGB
          replace hcf := Box.mk hcf
          have hf8 := hGB.f
          have hl8 := hGB.len
          clear hGB c0
          go_wp2_with fail
          refine hG.mono ?_
          clear hG
          rintro e w9 ⟨p', hp', rfl, L9, a9, n9, u9, hk9, hr9, hpd9, hs9, hn9, hb9, hQ9⟩
          clear f0 f1 f2 hcf
          rcases hQ9 with hQ9 | hQ9
          · have hN9 : L9.lv.length = N := by rw [hQ9]; exact hPN.out
            have hGI : Box (GI w0 bg (i + 1) p' D8 L9 a9 n9 u9 (.slice av N cv) w9) := ⟨⟨by rw [hQ9]; exact hk9, hr9, hf8, hl8, hpd9, hs9, hn9, hb9, by rw [hN9]; omega, by rw [hQ9]; exact fun y hy => hsz.out y (List.mem_append_left _ hy)⟩⟩
            clear hk9 hr9 hpd9 hs9 hn9 hb9 hf8 hl8
            have hG := g_size hGI.out
            rw [hN9] at hG
            go_wp2_with fail
            refine hG.mono ?_
            clear hG
            rintro e wl ⟨rfl, rfl⟩
            have hG := g_size hGI.out
            rw [hN9] at hG
            go_wp2_with fail
            refine hG.mono ?_
            clear hG
            rintro e wl ⟨rfl, rfl⟩
            have hG := g_pend hGI.out
            go_wp2_with fail
            refine hG.mono ?_
            clear hG
            rintro e wl ⟨rfl, rfl⟩
            go_wp2_with fail
            go_loopw [131] (fun s131 wr => ∃ k : Nat, k ≤ N ∧ s131 = .int .i64 k ∧ Box (GI w0 bg (i + 1) p' D8 L9 a9 n9 u9 (.slice av N cv) wr)) (fun s131 _ => N - (intOf s131).toNat)
            case atStart => exact ⟨0, by omega, rfl, hGI⟩
            case round =>
              clear hGI
              obtain ⟨k, hk, rfl, hGI⟩ := hrel
              by_cases hkl9 : k < N
              · obtain ⟨av9, cv9, hv9, hrow9, hPA9⟩ := g_row hGI.out.k
                injection hv9 with h91 h92 h93
                subst h91 h93
                obtain ⟨blk9, off9, rfl, hlt9, hc9⟩ := hPA9.at_ (by omega)
                have d9 := hc9 k (by omega)
                have hLf := g_leaf hGI.out k (by omega)
                obtain ⟨y9, hy9⟩ : ∃ y, L9.lv.getD k ByteArray.empty = y := ⟨_, rfl⟩
                rw [hy9] at d9 hLf
                have hki : (k : Int) < (N : Int) := by omega
                have hN21 : N ≤ 20 := by omega
                clear hrow9 hPA9 hc9 hy9 h92
                go_wp2_with fail
                refine hLf.mono ?_
                clear hLf
                rintro e wl ⟨rfl, rfl⟩
                go_wp2_with fail
                exact ⟨⟨k + 1, by omega, by go_num, hGI⟩, by simp [intOf]; omega⟩
              · have hkN : k = N := by omega
                subst hkN
                clear hkl9
                go_wp2_with fail
                exact ⟨⟨i + 1, p', D8, L9, a9, n9, u9, by omega, by go_num, rfl, hp', hGI⟩, by simp [intOf]; omega⟩
          · have hN9 : L9.lv.length = N + 1 := by rw [hQ9]; exact hPx.out
            have hG : Calls Tryz.prog 16 #[.pointer (some ⟨p'.bl, 0, none⟩)] w9 fun e w' => e = .returned (.int .i64 (L9.lv.length : Int)) ∧ w9 = w' := by
              obtain ⟨vl, vh2, vp, hk⟩ := tlx_open hk9
              exact tsize_any hk
            rw [hN9] at hG
            obtain ⟨av', cv', hv', hrow, hPA⟩ := g_row hk9
            injection hv' with h91 h92 h93
            subst h91 h93
            have hz := Box.mk (parts_new w9 [x] 9)
            have hb2 := bel_alloc w9 (.cells #[.string x] 9)
            have hrow3 := Box.mk (hrow.here hb2)
            have hk3 := Box.mk (hk9.below (Pair2.good TLx.good (GX.good _ _ _)) hb2)
            have hGS : Box (∀ vo w4, PushedT 0 (w9.alloc (.cells #[.string x] 9)) (.slice av N cv) (P ++ [x]) vo w4 → GI w0 bg (i + 1) p' D8 L9 a9 n9 u9 vo w4) := ⟨fun vo w4 hp =>
              ⟨by rw [hQ9]; exact g_pushk hk3.out hp, hr9, hf8, hl8, hpd9, hs9, hn9, hb9, by rw [hN9]; omega, by rw [hQ9]; exact hsz.out⟩⟩
            have hlim : Box ((P.length + 1) * 16 ≤ 140737488355328) := ⟨by rw [hPN.out]; omega⟩
            clear hk9 hr9 hpd9 hs9 hn9 hb9 hf8 hl8 hrow hPA h92 hk3 hb2
            have hN21 : N ≤ 20 := by omega
            go_wp2_with fail
            refine hG.mono ?_
            clear hG
            rintro e wl ⟨rfl, rfl⟩
            go_wp2_with (refine wpList_pushT rfl (.tmp 115) (.tmp 117) rfl 0 _ _ [x] rfl hrow3.out (Nat.zero_le _) (some ⟨w9.heap.size, 0, none⟩) 1 1 rfl rfl hz.out hlim.out ?_; intro vo w4 hpush; have hGI := Box.mk (hGS.out _ _ hpush); obtain ⟨a3, c3, rfl⟩ : ∃ a c, vo = .slice a (N + 1) c := (by obtain ⟨a, c, e⟩ := hpush.row.shape; exact ⟨a, c, by rw [e, hPx.out]⟩); clear hpush hGS)
            have hG := g_size hGI.out
            rw [hN9] at hG
            refine hG.mono ?_
            clear hG hz hrow3
            rintro e wl ⟨rfl, rfl⟩
            have hG := g_pend hGI.out
            go_wp2_with fail
            refine hG.mono ?_
            clear hG
            rintro e wl ⟨rfl, rfl⟩
            go_wp2_with fail
            go_loopw [131] (fun s131 wr => ∃ k : Nat, k ≤ N + 1 ∧ s131 = .int .i64 k ∧ Box (GI w0 bg (i + 1) p' D8 L9 a9 n9 u9 (.slice a3 (N + 1) c3) wr)) (fun s131 _ => N + 1 - (intOf s131).toNat)
            case atStart => exact ⟨0, by omega, rfl, hGI⟩
            case round =>
              clear hGI
              obtain ⟨k, hk, rfl, hGI⟩ := hrel
              by_cases hkl9 : k < N + 1
              · obtain ⟨av9, cv9, hv9, hrow9, hPA9⟩ := g_row hGI.out.k
                injection hv9 with h91 h92 h93
                subst h91 h93
                obtain ⟨blk9, off9, rfl, hlt9, hc9⟩ := hPA9.at_ (by omega)
                have d9 := hc9 k (by omega)
                have hLf := g_leaf hGI.out k (by omega)
                obtain ⟨y9, hy9⟩ : ∃ y, L9.lv.getD k ByteArray.empty = y := ⟨_, rfl⟩
                rw [hy9] at d9 hLf
                have hki : (k : Int) < ((N + 1 : Nat) : Int) := by omega
                clear hrow9 hPA9 hc9 hy9 h92
                go_wp2_with fail
                refine hLf.mono ?_
                clear hLf
                rintro e wl ⟨rfl, rfl⟩
                go_wp2_with fail
                exact ⟨⟨k + 1, by omega, by go_num, hGI⟩, by simp [intOf]; omega⟩
              · have hkN : k = N + 1 := by omega
                subst hkN
                clear hkl9
                go_wp2_with fail
                exact ⟨⟨i + 1, p', D8, L9, a9, n9, u9, by omega, by go_num, rfl, hp', hGI⟩, by simp [intOf]; omega⟩
    · have hiM : i = M1 := by omega
      have hBf : Box (Below w.heap.size w wr) := ⟨hb0.out.trans (hK.out.k.k.mono hb0.out.size)⟩
      subst hiM
      clear hK hlt
      go_wp2_with fail
      go_ret
      exact ⟨rfl, hBf.out⟩
end Go.Proofs.YthpfpkikmaiddaaGreatDoor.Tg
