/- Walk of Write. -/
import Derived.Test.YtoaipjpbioaneaaGreatFlD
import Derived.Test.YtoaipjpbioaneaaGreatQg
namespace Go.Proofs.YtoaipjpbioaneaaGreat
open Go.RowKit

theorem write_refused (bd : Nat) (F : Nat → Prop) (D : Dev) (n : Int) (t : ByteArray) (w : World) (h : DAt w bd F D) (hr : D.refused n ≠ 0) :
    Calls Tryz.prog 24 #[.pointer (some ⟨bd, 0, none⟩), .int .i64 n, .string t] w fun e w' => e = .returned (.int .i64 (D.refused n)) ∧ w = w' := by
  have hR := refused_any bd F D n w h
  have hb : ((D.refused n) != 0) = true := by simpa using hr
  generalize D.refused n = x at *
  replace hR := Box.mk hR
  clear hr h
  go_enter Tryz.func24, Tryz.ntmps24
  go_wp2_with fail
  refine hR.out.mono ?_
  rintro e w' ⟨rfl, rfl⟩
  go_wp2_with fail
  go_ret
  exact ⟨rfl, rfl⟩
theorem write_nil (n : Int) (t : ByteArray) (w : World) :
    Calls Tryz.prog 24 #[.pointer none, .int .i64 n, .string t] w fun e w' => e = .returned (.int .i64 1) ∧ w = w' := by
  go_enter Tryz.func24, Tryz.ntmps24
  go_wp2_with fail
  refine (refused_nil n w).mono ?_
  rintro e w' ⟨rfl, rfl⟩
  go_wp2_with fail
  go_ret
  exact ⟨rfl, rfl⟩
theorem write_long (bd : Nat) (F : Nat → Prop) (D : Dev) (n : Int) (t : ByteArray) (w : World) (h : DAt w bd F D) (hr : D.refused n = 0) (ht : 64 < t.size) :
    Calls Tryz.prog 24 #[.pointer (some ⟨bd, 0, none⟩), .int .i64 n, .string t] w fun e w' => e = .returned (.int .i64 1) ∧ w = w' := by
  have hR := refused_any bd F D n w h
  rw [hr] at hR
  replace hR := Box.mk hR
  clear hr h
  go_enter Tryz.func24, Tryz.ntmps24
  go_wp2_with fail
  refine hR.out.mono ?_
  rintro e w' ⟨rfl, rfl⟩
  clear hR
  go_wp2_with fail
  go_ret
  exact ⟨rfl, rfl⟩
theorem write_falls (bd : Nat) (F : Nat → Prop) (D : Dev) (n : Int) (t : ByteArray) (w : World) (h : DAt w bd F D) (hr : D.refused n = 0) (ht : t.size ≤ 64) (hk : D.taken ≤ 1000000) (hf : D.fall ≤ 9223372036854775807) (hg : D.goes = false) :
    Calls Tryz.prog 24 #[.pointer (some ⟨bd, 0, none⟩), .int .i64 n, .string t] w fun e w' => e = .returned (.int .i64 7) ∧ DAt w' bd F D.stepD ∧ Chg (fun k => k = bd) w w' ∧ w'.heap.size = w.heap.size := by
  have hR := refused_any bd F D n w h
  rw [hr] at hR
  have hS := step_any bd F D w h hk hf
  rw [hg] at hS
  replace hR := Box.mk hR
  replace hS := Box.mk hS
  clear hr h hk hf hg
  go_enter Tryz.func24, Tryz.ntmps24
  go_wp2_with fail
  refine hR.out.mono ?_
  rintro e w' ⟨rfl, rfl⟩
  clear hR
  go_wp2_with fail
  refine hS.out.mono ?_
  rintro e w1 ⟨rfl, hD1, hC1, hz1⟩
  replace hD1 := Box.mk hD1
  replace hC1 := Box.mk hC1
  replace hz1 := Box.mk hz1
  clear hS
  go_wp2_with fail
  go_ret
  exact ⟨rfl, hD1.out, hC1.out, hz1.out⟩

theorem write_done {w wd wa w7 : World} {bd g c n : Nat} {F : Nat → Prop} {D : Dev} {vp v' : Value} {bef aft : Sec} (h : DAt w bd F D) (hn : n < D.safe.length) (hbef : D.stepD.seen.getD n zeroS = bef) (haft : aft.length = 64)
    (hCd : Chg (fun k => F k ∨ w.heap.size ≤ k) w wd) (hb : Blk wd bd [.slice (some ⟨g, 0, none⟩) D.safe.length c, vp, .int .i64 (D.stepD.taken : Int), .int .i64 (D.stepD.fall : Int), .bool D.stepD.off] 73)
    (hs : Row wd 81 64 (.slice (some ⟨g, 0, none⟩) D.safe.length c) D.safe.length (secCells (D.stepD.seen.set n aft))) (hF1 : F g) (hF2 : ∀ k, vp.ownBlock = some k → F k) (hA : Chg (fun _ => False) wd wa)
    (hP : PushedRow wa 83 129 vp (D.ws.length + 1) (wrCells (pendW D.stepD.safe D.ws) ++ Wr.cells ⟨n, bef, aft⟩) v' w7) (hvs : ∀ k, vp.ownBlock = some k → g ≠ k ∧ bd ≠ k) :
    DNext w bd F { D.stepD with ws := D.ws ++ [(n, aft)] } (w7.setCell ⟨bd, 1, none⟩ v') := by
  have hok : ({ D.stepD with ws := D.ws ++ [(n, aft)] } : Dev).ok := ⟨h.ok.step.s, okW_snoc (by rw [Dev.step_safe]; exact h.ok.w) (by rw [Dev.step_safe]; exact hn) haft, h.ok.step.n⟩
  have hba := hA.blk hb (fun h => h)
  have hsa := hs.chg hA (fun _ _ h => h)
  have hb7 := hP.chg.blk hba (fun hk => (hvs bd hk).2 rfl)
  have hs7 := hsa.chg hP.chg (fun k hk hv => by
    obtain rfl : g = k := by simpa [Value.ownBlock] using hk
    exact (hvs g hv).1 rfl)
  have hc8 := chg1 w7 bd 1 v'
  have hgb : g ≠ bd := by
    rintro rfl
    exact hs7.apart hb7 (by decide) rfl
  have hsz1 := hCd.size
  have hsz2 := hA.size
  have hsz3 := hP.chg.size
  have hsz4 : (w7.setCell ⟨bd, 1, none⟩ v').heap.size = w7.heap.size := by simp
  refine ⟨⟨hok, ⟨.slice (some ⟨g, 0, none⟩) D.safe.length c, v', hb7.setCell 1 v', ?_, ?_, fun k hk => ?_, fun k hk => ?_⟩, .inl h.fd, fun k hk => ?_⟩, ?_⟩
  · have := hs7.chg hc8 (fun k hk hb => by
      obtain rfl : g = k := by simpa [Value.ownBlock] using hk
      exact hgb hb)
    have e : ({ D.stepD with ws := D.ws ++ [(n, aft)] } : Dev).seen = D.stepD.seen.set n aft := by
      unfold Dev.seen; rw [runW_snoc]; rw [Dev.step_ws]
    rw [e]
    simpa [Dev.step_safe] using this
  · have := hP.row.chg hc8 (fun k hk hb => by subst hb; exact hP.row.apart hb7 (by decide) hk)
    have e : pendW D.stepD.safe (D.ws ++ [(n, aft)]) = pendW D.stepD.safe D.ws ++ [⟨n, bef, aft⟩] := by
      rw [pendW_snoc]
      have : D.stepD.seen = runW D.stepD.safe D.ws := by unfold Dev.seen; rw [Dev.step_ws]
      rw [← this, hbef]
    simp only [List.length_append, List.length_singleton]
    rw [e, wrCells_snoc]
    exact this
  · obtain rfl : g = k := by simpa [Value.ownBlock] using hk
    exact .inl hF1
  · rcases hP.place k hk with h1 | h1
    · exact .inl (hF2 k h1)
    · have := hP.row.lt k hk
      exact .inr (by omega)
  · rcases hk with hk | hk
    · have := h.lt k hk; omega
    · exact hk.2
  · have h1 : Chg F w wd := ⟨hCd.os, hCd.tape, hCd.output, hCd.size, fun k hk hn => hCd.block k hk (by rintro (h | h); exact hn h; omega)⟩
    exact ((h1.trans hA (fun _ _ h => h.elim)).trans hP.chg (fun i _ hi => hF2 i hi)).trans hc8 (fun i _ hi => by rw [hi]; exact h.fd)
set_option maxHeartbeats 1600000 in
set_option maxRecDepth 100000 in
theorem write_fit (bd : Nat) (F : Nat → Prop) (D : Dev) (n : Nat) (t : ByteArray) (w : World) (h : DAt w bd F D) (hoff : D.off = false) (hn : n < D.safe.length) (ht : t.size ≤ 64) (hk : D.taken ≤ 1000000) (hf : D.fall ≤ 9223372036854775807) (hws : D.ws.length ≤ 1000000) (hg : D.goes = true) :
    Calls Tryz.prog 24 #[.pointer (some ⟨bd, 0, none⟩), .int .i64 (n : Int), .string t] w fun e w' => e = .returned (.int .i64 0) ∧ DNext w bd F { D.stepD with ws := D.ws ++ [(n, padS t.data.toList)] } w' := by
  have hR := refused_any bd F D n w h
  have hz : D.refused (n : Int) = 0 := by unfold Dev.refused; rw [hoff, if_neg (by simp), if_neg (by omega)]
  rw [hz] at hR
  have hS := step_any bd F D w h hk hf
  rw [hg] at hS
  replace hR := Box.mk hR
  replace hS := Box.mk hS
  clear hz
  obtain ⟨iW, zW, hiW, hzW, hiW1, hiW2, hLW⟩ := info_cells infoW
  have hH := Box.mk (And.intro hiW (And.intro hzW (And.intro hiW1 (And.intro hiW2 hLW))))
  clear hiW hzW hiW1 hiW2 hLW
  replace h := Box.mk h
  replace hoff := Box.mk hoff
  replace hg := Box.mk hg
  replace hk := Box.mk hk
  replace hf := Box.mk hf
  replace hws := Box.mk hws
  go_enter Tryz.func24, Tryz.ntmps24
  go_wp2_with fail
  refine hR.out.mono ?_
  rintro e w' ⟨rfl, rfl⟩
  clear hR
  go_wp2_with fail
  refine hS.out.mono ?_
  rintro e w1 ⟨rfl, hD1, hC1, hz1⟩
  clear hS
  obtain ⟨vs, vp, hb, hs, hp, hF1, hF2⟩ := hD1.out
  rw [Dev.step_safe] at hs
  obtain ⟨g, c, rfl, hgl⟩ := hs.some (by omega)
  obtain ⟨pa, pc, rfl⟩ := hp.shape
  have hx := (Hold.of_row hs).range (n * 64) 64
  have hsl : D.stepD.seen.length = D.safe.length := by rw [Dev.ok.seen_len, Dev.step_safe]
  rw [secCells_get _ _ hD1.ok.seen (by omega)] at hx
  obtain ⟨bef, hbef⟩ : ∃ bef, D.stepD.seen.getD n zeroS = bef := ⟨_, rfl⟩
  rw [hbef] at hx
  have hbl : bef.length = 64 := hbef ▸ okS_getD hD1.ok.seen n
  have c0 : w1.cell? ⟨bd, 0, none⟩ = some (.slice (some ⟨g, 0, none⟩) D.safe.length c) := hb.cell 0
  replace hD1 := Box.mk hD1
  replace hC1 := Box.mk hC1
  replace hz1 := Box.mk hz1
  replace hb := Box.mk hb
  replace hs := Box.mk hs
  replace hp := Box.mk hp
  replace hF1 := Box.mk hF1
  replace hF2 := Box.mk hF2
  replace hsl := Box.mk hsl
  replace hbef := Box.mk hbef
  replace hbl := Box.mk hbl
  replace hx := Box.mk hx
  obtain ⟨N, hN⟩ : ∃ N, D.safe.length = N := ⟨_, rfl⟩
  rw [hN] at c0 hn
  replace hN := Box.mk hN
  obtain ⟨bo, hbo⟩ : ∃ bo, w1.heap.size = bo := ⟨_, rfl⟩
  replace hbo := Box.mk hbo
  go_wp2_with (first
    | (refine wpList_load_mid (cs := bef.map yc) rfl 81 (.tmp 27) rfl g (n * 64) rfl _ hx.out Tryz.underlying81 rfl (by rw [sizeS, List.length_map, hbl.out]) ?_)
    | (refine wpList_buildC rfl 83 [(0, .tmp 21), (1, .tmp 28)] rfl [(0, .int .i64 (n : Int)), (1, .agg (bef.map yc).toArray)] rfl (Value.int .i64 (n : Int) :: (bef.map yc ++ zeroS.map yc)) (built_w (n : Int) bef hbl.out) ?_)
    | (refine wpList_allocL rfl 83 rfl iW zW zeroW hH.out.1 hH.out.2.1 hH.out.2.2.2.2 bo hbo.out ?_; intro w2 hb2 hc2 hz2; replace hb2 := Box.mk hb2; replace hc2 := Box.mk hc2; replace hz2 := Box.mk hz2)
    | (refine wpList_storeH rfl 83 (.tmp 8) (.tmp 29) rfl bo 0 83 zeroW (Value.int .i64 (n : Int) :: (bef.map yc ++ zeroS.map yc)) rfl rfl (Hold.of_blk hb2.out) (by simp [zeroW_length, hbl.out, zeroS_length]) (Wr.cells_one ⟨n, bef, zeroS⟩) (by simp [sizeW, hbl.out, zeroS_length]) ?_; intro w3 hl3; replace hl3 := Box.mk hl3; have hb3 := Box.mk (hl3.out.blk hb2.out))
    | (refine wpList_copyT rfl (.tmp 31) (.tmp 32) 84 9 5 rfl Tryz.underlying84 sizeB bo 65 64 64 t 83 _ rfl rfl (Hold.of_blk hb3.out) ht (by simp [spl_length, zeroW_length, hbl.out, zeroS_length]; omega) ?_; intro w4 hl4; replace hl4 := Box.mk hl4; have hb4 := Box.mk (hl4.out.blk hb3.out)))
  have e4 : Box (Blk w4 bo (Wr.cells ⟨n, bef, padS t.data.toList⟩) 83) := ⟨by
    have := hb4.out
    rw [spl_full _ _ (by simp [zeroW_length, hbl.out, zeroS_length]), cells_aft _ _ _ hbl.out (by rw [data_len]; exact ht)] at this
    exact this⟩
  have hB4 : Box (Below w1.heap.size w1 w4) := ⟨by
    have h1 := (hc2.out.mono (T := fun k => k = bo) fun _ _ h => h.elim).trans hl3.out.chg (fun _ _ h => h)
    have h2 := h1.trans hl4.out.chg (fun _ _ h => h)
    exact h2.below (Nat.le_refl _) (fun i hi => by rw [hi, hbo.out]; exact Nat.le_refl _)⟩
  have hD4 := Box.mk (hD1.out.below hB4.out)
  clear hb2 hc2 hz2 hl3 hb3 hl4 hb4 hx
  have hb4 := Box.mk ((hB4.out.block bd hb.out.lt).trans hb.out)
  have hs4 := Box.mk (hs.out.kept fun k hk => hB4.out.block k (hs.out.lt k hk))
  have hp4 := Box.mk (hp.out.kept fun k hk => hB4.out.block k (hp.out.lt k hk))
  have hg4 : Box (g ≠ bo) := ⟨by rw [← hbo.out]; omega⟩
  clear c0
  have hpl : Box ((padS t.data.toList).length = 64) := ⟨padS_length _ (by rw [data_len]; exact ht)⟩
  obtain ⟨aft, haft⟩ : ∃ aft, padS t.data.toList = aft := ⟨_, rfl⟩
  rw [haft] at hpl e4
  replace haft := Box.mk haft
  refine region_quiet_tail (C := fun w' => Chg (fun _ => False) w4 w') 8 rfl (by kernel_rfl) ((Chg.refl _ _).drew) ?_
  simp only [List.take, List.drop]
  simp only [Act.put, List.setIfInBounds_toArray, List.set_cons_succ, List.set_cons_zero]
  repeat (go_big_quiet_step (first | exact fun _ => rfl | rfl))
  refine quiet_any rfl (.slice (some ⟨g, 0, none⟩) N c) (fun w' hw' => by
    have c9 : w'.cell? ⟨bd, 0, none⟩ = some (.slice (some ⟨g, 0, none⟩) D.safe.length c) := (hw'.blk hb4.out (fun h => h)).cell 0
    rw [hN.out] at c9
    go_simp) ?_
  simp only [Act.put, List.setIfInBounds_toArray, List.set_cons_succ, List.set_cons_zero]
  repeat (go_big_quiet_step (first | exact fun _ => rfl | rfl))
  refine quiet_any rfl (.agg (aft.map yc).toArray) (fun w' hw' => by
    have hr := (Hold.of_blk (hw'.blk e4.out (fun h => h))).range 65 64
    rw [Wr.cells_aft _ hbl.out hpl.out] at hr
    exact exec_load_mid _ 81 (.tmp 39) rfl bo 65 rfl (aft.map yc) _ hr Tryz.underlying81 rfl (by rw [sizeS, List.length_map, hpl.out])) ?_
  simp only [Act.put, List.setIfInBounds_toArray, List.set_cons_succ, List.set_cons_zero]
  repeat (go_big_quiet_step (first | exact fun _ => rfl | rfl))
  refine wpQuiet_nil ?_
  intro w5 hC5
  replace hC5 := Box.mk hC5
  have hH5 : Box (Hold w5 g 81 (secCells D.stepD.seen)) := ⟨(Hold.of_row hs4.out).chg hC5.out (fun h => h)⟩
  have hfit5 : Box (n * 64 + (aft.map yc).length ≤ (secCells D.stepD.seen).length) := ⟨by rw [List.length_map, hpl.out, secCells_length _ hD1.out.ok.seen, hsl.out, hN.out]; omega⟩
  go_wp2_with (refine wpList_storeH rfl 81 (.tmp 41) (.tmp 40) rfl g (n * 64) 81 (secCells D.stepD.seen) (aft.map yc) rfl rfl hH5.out hfit5.out (yc_one _) (by rw [sizeS, List.length_map, hpl.out]) ?_; intro w6 hl6; replace hl6 := Box.mk hl6)
  have hb6 := Box.mk (hl6.out.chg.blk (hC5.out.blk hb4.out (fun h => h)) (fun hk => hs.out.apart hb.out (by decide) (by rw [hk]; rfl)))
  have e6 := Box.mk (hl6.out.chg.blk (hC5.out.blk e4.out (fun h => h)) (fun hk => hg4.out hk.symm))
  have hs6 : Box (Row w6 81 64 (.slice (some ⟨g, 0, none⟩) D.safe.length c) D.safe.length (secCells (D.stepD.seen.set n aft))) := ⟨by
    rw [← secCells_set _ _ _ hD1.out.ok.seen hpl.out (by rw [hsl.out, hN.out]; exact hn)]
    exact hl6.out.row _ _ _ (hs4.out.chg hC5.out (fun _ _ h => h))⟩
  have hp6 := Box.mk ((hp4.out.chg hC5.out (fun _ _ h => h)).chg hl6.out.chg (fun k hk hg => hs.out.unlike hp.out (by decide) g rfl (by rw [hk, hg])))
  have hC6 : Box (Chg (fun k => F k ∨ w.heap.size ≤ k) w w6) := ⟨by
    have h0 := hC1.out.mono (T := F) (fun i _ hi => by rw [hi]; exact h.out.fd)
    have h1 := Chg.of_below hB4.out
    have h2 := (h0.mono (T := fun k => F k ∨ w.heap.size ≤ k) (fun _ _ h => .inl h)).trans h1 (fun i hi hk => .inr (by rw [hz1.out] at hk; exact hk))
    have h3 := h2.trans hC5.out (fun _ _ h => h.elim)
    exact h3.trans hl6.out.chg (fun i _ hi => .inl (hF1.out i (by rw [hi]; rfl)))⟩
  clear hH5 hfit5 hC5 hl6 hb4 hs4 hp4 e4 hD4
  rw [Dev.step_ws] at hb6 hp6
  have hvs : Box (∀ k, (Value.slice pa D.ws.length pc).ownBlock = some k → g ≠ k ∧ bd ≠ k) := ⟨fun k hk => ⟨by
    rintro rfl
    exact hs6.out.unlike hp6.out (by decide) g rfl hk, by
    rintro rfl
    exact hp6.out.apart hb6.out (by decide) hk⟩⟩
  have hbd' := Box.mk (hb6.out)
  refine region_go (C := fun w' => Blk w' bo (Wr.cells ⟨n, bef, aft⟩) 83) rfl ?_
  have hCd := Box.mk (hC6.out.drew)
  have hbd : Box (Blk w6.drew bd _ 73) := ⟨hb6.out⟩
  have hed : Box (Blk w6.drew bo _ 83) := ⟨e6.out⟩
  have hsd : Box (Row w6.drew 81 64 _ _ _) := ⟨hs6.out⟩
  have hpd : Box (Row w6.drew 83 129 _ _ _) := ⟨hp6.out⟩
  generalize w6.drew = wd at hCd hbd hed hsd hpd ⊢
  clear hC6 hb6 e6 hs6 hp6 hbd'
  refine go_calms [0, 1, 2, 3, 5] 6 rfl (by kernel_rfl) (by kernel_rfl) (by kernel_rfl) hed.out ?_
  simp [nth]
  simp only [Act.put]
  repeat (go_big_quiet_step (first | exact fun _ => rfl | rfl))
  have hcl : Box ((Wr.cells ⟨n, bef, aft⟩).length = 129) := ⟨Wr.cells_length _ hbl.out hpl.out⟩
  refine quiet_any rfl (.agg (Wr.cells ⟨n, bef, aft⟩).toArray) (fun w' hw' => exec_load_mid _ 83 (.tmp 8) rfl bo 0 rfl (Wr.cells ⟨n, bef, aft⟩) _ (range_all hw') Tryz.underlying83 rfl (by rw [sizeW, hcl.out])) ?_
  simp only [Act.put, List.setIfInBounds_toArray, List.set_cons_succ, List.set_cons_zero]
  refine wpQuiet_nil ?_
  have c1 : wd.cell? ⟨bd, 1, none⟩ = some (.slice pa D.ws.length pc) := hbd.out.cell 1
  have hFp : Box (∀ k, (Value.slice pa D.ws.length pc).ownBlock = some k → F k) := ⟨fun k hk => hF2.out k (by rw [Dev.step_ws]; exact hk)⟩
  have hbo' : Box (∀ k, (Value.slice pa D.ws.length pc).ownBlock = some k → k ≠ bo) := ⟨fun k hk => by have h1 := h.out.lt k (hFp.out k hk); have h2 := hbo.out; have h3 := hz1.out; omega⟩
  have hbd0 : Box (bd ≠ bo) := ⟨by have h1 := h.out.lt bd h.out.fd; have h2 := hbo.out; have h3 := hz1.out; omega⟩
  refine go_fork 4 6 (by kernel_rfl) (goOp_wp 4 rfl rfl (fun K hK => ?_)) (goOp_wp 6 rfl rfl (fun K hK => ?_))
  · go_simp
    refine hK _ _ hed.out ?_
    clear hK K
    refine go_forced 6 (by kernel_rfl) (goOp_wp 6 rfl rfl (fun K hK => ?_))
    refine wp_slice1 71 83 (.tmp 47) rfl (Wr.cells ⟨n, bef, aft⟩) rfl iW zW Tryz.underlying71 hH.out.1 hH.out.2.1 (by rw [hH.out.2.2.1, hcl.out]) (by rw [hcl.out]; omega) (by rw [hcl.out]; omega) _ rfl ?_
    intro wa hba hca hza
    refine hK _ _ (hca.blk hed.out (fun h => h)) ?_
    clear hK K
    simp only [Act.put, List.setIfInBounds_toArray]
    refine go_forced 7 (by kernel_rfl) (goOp_wp 7 rfl rfl (fun K hK => ?_))
    refine wp_pushR (.tmp 46) (.tmp 48) 71 83 rfl iW zW 129 136 Tryz.underlying71 hH.out.1 hH.out.2.1 hH.out.2.2.1 hH.out.2.2.2.1 (by rw [hH.out.2.2.2.2]; simp [zeroW_length]) (by omega) (.slice pa D.ws.length pc) D.ws.length _ rfl (hpd.out.chg hca (fun _ _ h => h)) ⟨_, 0, none⟩ 1 1 (Wr.cells ⟨n, bef, aft⟩) rfl (by rw [hcl.out]) (fun j u hj => by rw [Addr.add_mid]; exact range_all hba j u hj) (Wr.cells_one _) (by have := hws.out; unfold maxLen; omega) (by have := hws.out; omega) ?_
    intro v7 w7 hp7
    have hfin := Box.mk (write_done h.out (by rw [hN.out]; exact hn) hbef.out hpl.out hCd.out hbd.out hsd.out (hF1.out g rfl) hFp.out hca hp7 hvs.out)
    obtain ⟨a7, c7, rfl⟩ := hp7.row.shape
    have hb7 := hp7.chg.blk (hca.blk hbd.out (fun h => h)) (fun hk => (hvs.out bd hk).2 rfl)
    have he7 := hp7.chg.blk (hca.blk hed.out (fun h => h)) (fun hk => hbo'.out bo hk rfl)
    have c7' : w7.cell? ⟨bd, 1, none⟩ = some (.slice pa D.ws.length pc) := hb7.cell 1
    have f7 := hb7.free 1
    have he8 := Box.mk ((chg1 w7 bd 1 (.slice a7 (D.ws.length + 1) c7)).blk he7 (fun hk => hbd0.out hk.symm))
    refine hK _ _ he7 ?_
    clear hK K c1 hb7 hp7 hba hca hza
    replace he7 := Box.mk he7
    simp only [Act.put]
    refine go_calms [8, 9] 1 rfl (by kernel_rfl) (by kernel_rfl) (by kernel_rfl) he7.out ?_
    simp [nth]
    repeat (go_big_quiet_step (first | exact fun _ => rfl | rfl))
    refine wpQuiet_nil ?_
    refine go_forced 10 (by kernel_rfl) (goOp_wp 10 rfl rfl (fun K hK => ?_))
    go_simp
    refine hK _ _ he8.out ?_
    clear hK K
    refine go_done (by kernel_rfl) ?_
    go_wp2_with fail
    go_ret
    exact ⟨rfl, by rw [haft.out]; exact hfin.out⟩
  ·
    refine wp_slice1 71 83 (.tmp 47) rfl (Wr.cells ⟨n, bef, aft⟩) rfl iW zW Tryz.underlying71 hH.out.1 hH.out.2.1 (by rw [hH.out.2.2.1, hcl.out]) (by rw [hcl.out]; omega) (by rw [hcl.out]; omega) _ rfl ?_
    intro wa hba hca hza
    refine hK _ _ (hca.blk hed.out (fun h => h)) ?_
    clear hK K
    simp only [Act.put, List.setIfInBounds_toArray]
    have c1a : wa.cell? ⟨bd, 1, none⟩ = some (.slice pa D.ws.length pc) := (hca.blk hbd.out (fun h => h)).cell 1
    have hea := Box.mk (hca.blk hed.out (fun h => h))
    refine go_forced 4 (by kernel_rfl) (goOp_wp 4 rfl rfl (fun K hK => ?_))
    go_simp
    refine hK _ _ hea.out ?_
    clear hK K c1a hea
    refine go_forced 7 (by kernel_rfl) (goOp_wp 7 rfl rfl (fun K hK => ?_))
    refine wp_pushR (.tmp 46) (.tmp 48) 71 83 rfl iW zW 129 136 Tryz.underlying71 hH.out.1 hH.out.2.1 hH.out.2.2.1 hH.out.2.2.2.1 (by rw [hH.out.2.2.2.2]; simp [zeroW_length]) (by omega) (.slice pa D.ws.length pc) D.ws.length _ rfl (hpd.out.chg hca (fun _ _ h => h)) ⟨_, 0, none⟩ 1 1 (Wr.cells ⟨n, bef, aft⟩) rfl (by rw [hcl.out]) (fun j u hj => by rw [Addr.add_mid]; exact range_all hba j u hj) (Wr.cells_one _) (by have := hws.out; unfold maxLen; omega) (by have := hws.out; omega) ?_
    intro v7 w7 hp7
    have hfin := Box.mk (write_done h.out (by rw [hN.out]; exact hn) hbef.out hpl.out hCd.out hbd.out hsd.out (hF1.out g rfl) hFp.out hca hp7 hvs.out)
    obtain ⟨a7, c7, rfl⟩ := hp7.row.shape
    have hb7 := hp7.chg.blk (hca.blk hbd.out (fun h => h)) (fun hk => (hvs.out bd hk).2 rfl)
    have he7 := hp7.chg.blk (hca.blk hed.out (fun h => h)) (fun hk => hbo'.out bo hk rfl)
    have c7' : w7.cell? ⟨bd, 1, none⟩ = some (.slice pa D.ws.length pc) := hb7.cell 1
    have f7 := hb7.free 1
    have he8 := Box.mk ((chg1 w7 bd 1 (.slice a7 (D.ws.length + 1) c7)).blk he7 (fun hk => hbd0.out hk.symm))
    refine hK _ _ he7 ?_
    clear hK K c1 hb7 hp7 hba hca hza
    replace he7 := Box.mk he7
    simp only [Act.put, List.setIfInBounds_toArray]
    refine go_calms [8, 9] 1 rfl (by kernel_rfl) (by kernel_rfl) (by kernel_rfl) he7.out ?_
    simp [nth]
    repeat (go_big_quiet_step (first | exact fun _ => rfl | rfl))
    refine wpQuiet_nil ?_
    refine go_forced 10 (by kernel_rfl) (goOp_wp 10 rfl rfl (fun K hK => ?_))
    go_simp
    refine hK _ _ he8.out ?_
    clear hK K
    refine go_done (by kernel_rfl) ?_
    go_wp2_with fail
    go_ret
    exact ⟨rfl, by rw [haft.out]; exact hfin.out⟩
end Go.Proofs.YtoaipjpbioaneaaGreat
