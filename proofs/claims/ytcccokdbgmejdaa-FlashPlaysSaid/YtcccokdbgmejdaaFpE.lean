/- The document's device: Write. -/
import Derived.Test.YtcccokdbgmejdaaFpD
import Derived.IntWalk
namespace Go.Proofs.Ytcccokdbgmejdaa
open Go.RowKit

section
variable {P : Program} {w : World} {o : Oper} {a : Act} {Q : Exit → Act → World → Prop}
theorem wp_make {K : Act → World → Prop} (l c : Operand) (t : TypeId) (hop : o.op = Op.makeSlice t l c) (base : Nat) (e : TypeId) (i : TypeInfo) (z : Value) (size : Nat) (h1 : P.underlying t = some (.slice e)) (h2 : P.info? e = some i) (h3 : i.zero = some z) (h4 : i.size = size)
    (kl kc : IntKind) (L C : Int) (n : Nat) (hl : a.eval l = .int kl L) (hc : a.eval c = .int kc C) (hL : L = (n : Int)) (hC : C = (n : Int)) (b2 : i.bytes * n ≤ 281474976710656) (b3 : n ≤ maxLen) (b4 : base ≤ w.heap.size)
    (k : ∀ w', w'.ownsRow base e size (.slice (some ⟨w.heap.size, 0, none⟩) n n) n (madeCells z.cells (n * size)).toList → w.grownBy w' none → K (a.put o.dst (.slice (some ⟨w.heap.size, 0, none⟩) n n)) w') : o.wp P a w K Q := by
  obtain ⟨w', hrun, r1, r2⟩ := run_make_full (P := P) w base t e i z size h1 h2 h3 h4 kl kc n b2 b3 b4
  subst hL
  subst hC
  unfold Oper.wp
  simp [execOp, hop, hl, hc, hrun, Result.andThen]
  exact k w' r1 r2
end
theorem zeros_conv (w : World) (g base n : Nat) (h : w.ownsRow base 5 1 (.slice (some ⟨g, 0, none⟩) n n) n (madeCells (Value.int .u8 0).cells (n * 1)).toList) :
    (convert 49 9 (.slice (some ⟨g, 0, none⟩) n n)).run Try.prog w = .ok (.string (bt (List.replicate n 0))) w := by
  have e : (madeCells (Value.int .u8 0).cells (n * 1)).toList = (List.replicate n (0 : UInt8)).map yc := by
    have := toList_madeCells_one (.int .u8 0) (n * 1)
    rw [Nat.mul_one] at this
    rw [Nat.mul_one, List.map_replicate]
    exact this
  rw [e] at h
  have hx : w.rangeAt g 0 ((List.replicate n (0 : UInt8)).map yc) := fun j v hv => by
    have := World.ownsRow.cells (g := g) h rfl j v hv
    rw [Addr.add_mid] at this
    exact this
  have := bytes_conv w g 0 n (List.replicate n (0 : UInt8)) hx
  rw [List.length_replicate] at this
  exact this
theorem infoV : (Try.prog.info? 84).map (fun i => (i.zero, i.size, i.bytes)) = some (some (.agg #[.int .i64 0, .string ⟨#[]⟩]), 2, 24) := by kernel_rfl
theorem q_written {w w2 w3 w5 : World} {bw : Nat} {F : Nat → Prop} {D : Dev} {n : Nat} {t : List UInt8} {vs vp v' : Value} (h : QAt w bw F D) (hn : n < D.safe.length) (ht : t.length ≤ 64) (hc : Chg (fun k => k = bw) w w2) (hz : w2.heap.size = w.heap.size)
    (hb : Blk w2 bw [vs, vp, .int .i64 (D.stepD.taken : Int), .int .i64 (D.stepD.fall : Int), .bool D.stepD.off] 66) (hs : Row w2 9 1 vs D.safe.length (strs D.safe)) (hp : Row w2 84 2 vp D.ws.length (wcs D.ws))
    (hF1 : ∀ k, vs.ownBlock = some k → F k) (hF2 : ∀ k, vp.ownBlock = some k → F k) (hB : Below w2.heap.size w2 w3)
    (hrow : Row w5 84 2 v' (D.ws.length + 1) (wcs D.ws ++ [.int .i64 (n : Int), .string (bt (padS t))])) (hch : Chg (fun k => vp.ownBlock = some k) w3 w5) (hpl : ∀ k, v'.ownBlock = some k → vp.ownBlock = some k ∨ w3.heap.size ≤ k) :
    QNext w bw F { D.stepD with ws := D.ws ++ [(n, padS t)] } (w5.setCell ⟨bw, 1, none⟩ v') := by
  have hs1 := hB.size
  have hs2 := hch.size
  have hb3 : Blk w3 bw _ _ := (hB.block bw hb.lt).trans hb
  have hbp : ∀ k, vp.ownBlock = some k → bw ≠ k := fun k hk => by rintro rfl; exact hp.apart hb (by decide) hk
  have hb5 := hch.blk hb3 (fun hk => hbp bw hk rfl)
  have hs3 := hs.chg (Chg.of_below hB) (fun k hk => by have := hs.lt k hk; omega)
  have hs5 := hs3.chg hch (fun k hk hk2 => hs.unlike hp (by decide) k hk hk2)
  have hc6 := chg1 w5 bw 1 v'
  have hbs : ∀ k, vs.ownBlock = some k → ¬ k = bw := fun k hk => by rintro rfl; exact hs.apart hb (by decide) hk
  have hb6 := hb5.setCell 1 v'
  have hbv : ∀ k, v'.ownBlock = some k → ¬ k = bw := fun k hk => by
    rintro rfl
    rcases hpl k hk with h1 | h1
    · exact hbp k h1 rfl
    · have := hb.lt; omega
  refine ⟨⟨⟨?_, ?_, ?_⟩, ⟨vs, v', hb6, ?_, ?_, fun k hk => .inl (hF1 k hk), fun k hk => ?_⟩, .inl h.fd, fun k hk => ?_⟩, ?_⟩
  · exact (Dev.step_safe D) ▸ h.ok.s
  · simp only [Dev.step_safe]
    exact okW_snoc h.ok.w hn (padS_length t ht)
  · simp only [Dev.step_safe]; exact h.ok.n
  · simp only [Dev.step_safe]
    exact hs5.chg hc6 (fun k hk => hbs k hk)
  · simp only [List.length_append, List.length_singleton, wcs_app]
    exact hrow.chg hc6 (fun k hk => hbv k hk)
  · have hl := hrow.lt k hk
    rcases hpl k hk with h1 | h1
    · exact .inl (hF2 k h1)
    · exact .inr ⟨by omega, by have := hc6.size; omega⟩
  · have h6 := hc6.size
    rcases hk with hk | hk
    · have := h.lt k hk; omega
    · exact hk.2
  · have k1 := hc.mono (T := F) (fun i _ hi => by rw [hi]; exact h.fd)
    have k2 := k1.trans ((Chg.of_below hB).mono (T := F) (fun i h1 h2 => by omega)) (fun _ _ h => h)
    have k3 := k2.trans (hch.mono (T := F) (fun i _ hi => hF2 i hi)) (fun _ _ h => h)
    exact k3.trans hc6 (fun i _ hi => by rw [hi]; exact h.fd)
set_option linter.unusedSimpArgs false in
set_option maxHeartbeats 3200000 in
set_option maxRecDepth 100000 in
theorem qwrite_fit (bw : Nat) (F : Nat → Prop) (D : Dev) (n : Nat) (t : ByteArray) (w : World) (h : QAt w bw F D) (hr : D.refused n = 0) (hn : n < D.safe.length) (ht : t.size ≤ 64) (hg : D.goes = true) (hk : D.taken ≤ 1000000) (hf : D.fall ≤ 9223372036854775807) (hws : D.ws.length ≤ 1000000) :
    Calls Try.prog 32 #[.pointer (some ⟨bw, 0, none⟩), .int .i64 (n : Int), .string t] w fun e w' => e = .returned (.int .i64 0) ∧ QNext w bw F { D.stepD with ws := D.ws ++ [(n, padS t.data.toList)] } w' := by
  have hIn := Box.mk (qin_any bw F D n w h)
  rw [hr] at hIn
  have hSt := qstep_any bw F D w h hk hf
  rw [hg] at hSt
  replace hSt := Box.mk hSt
  replace h := Box.mk h
  go_enter Try.func32, Try.ntmps32
  go_wp2_with fail
  refine hIn.out.mono ?_
  rintro e w' ⟨rfl, rfl⟩
  clear hIn
  go_wp2_with fail
  refine hSt.out.mono ?_
  rintro e w2 ⟨rfl, hq, hc, hz⟩
  simp only [if_true]
  clear hSt
  obtain ⟨vs, vp, hb, hs, hp, hF1, hF2⟩ := hq.out
  rw [Dev.step_safe] at hs
  rw [Dev.step_ws] at hp
  obtain ⟨pa, pc, rfl⟩ := hp.shape
  obtain ⟨iV, hiV, hzV, hsV, hbV⟩ := info_parts infoV
  obtain ⟨i5, hi5, hz5, hz51, hz52⟩ := info_parts info5'
  have hH := Box.mk (And.intro hiV (And.intro hzV (And.intro hsV hbV)))
  have hG := Box.mk (And.intro hi5 (And.intro hz5 (And.intro hz51 hz52)))
  have hbd : Box (Blk w2.drew bw _ 66) := ⟨hb⟩
  have hsd : Box (Row w2.drew 9 1 _ _ _) := ⟨hs⟩
  have hpd : Box (Row w2.drew 84 2 _ _ _) := ⟨hp⟩
  have hcd := Box.mk hc.drew
  have hzd : Box (w2.drew.heap.size = w.heap.size) := ⟨hz⟩
  replace hF1 := Box.mk hF1
  replace hF2 := Box.mk hF2
  clear hb hs hp hq hc hz hiV hzV hsV hbV hi5 hz5 hz51 hz52
  go_wp2_with fail
  refine region_go (C := fun _ => True) rfl ?_
  generalize w2.drew = wd at hbd hsd hpd hcd hzd ⊢
  obtain ⟨M, hM⟩ : ∃ M, D.ws.length = M := ⟨_, rfl⟩
  rw [hM] at hpd hws hF2 hbd
  obtain ⟨m, hm⟩ : ∃ m, 64 - t.size = m := ⟨_, rfl⟩
  have hml : Box ((64 : Int) - (t.size : Int) = (m : Int)) := ⟨by omega⟩
  have hm64 : m ≤ 64 := by omega
  replace hM := Box.mk hM
  replace hm := Box.mk hm
  have c1 : wd.cell? ⟨bw, 1, none⟩ = some (.slice pa M pc) := hbd.out.cell 1
  refine go_calms [0, 1, 2, 3, 5, 6, 7] 12 rfl (by kernel_rfl) (by kernel_rfl) (by kernel_rfl) True.intro ?_
  simp [nth]
  repeat (go_big_quiet_step (first | exact fun _ => rfl | rfl))
  refine wpQuiet_nil ?_
  refine go_calm 8 (by kernel_rfl) rfl (by kernel_rfl) (by kernel_rfl) True.intro (yields (v := .int .i64 (t.size : Int)) rfl (fun w' hw' => by go_simp)) ?_
  simp only [Act.put, List.setIfInBounds_toArray, List.set_cons_succ, List.set_cons_zero]
  refine go_calm 9 (by kernel_rfl) rfl (by kernel_rfl) (by kernel_rfl) True.intro (yields (v := .int .i64 (m : Int)) rfl (fun w' hw' => by go_simp; rw [IntWalk.i64_in _ (by omega)]; exact hml.out)) ?_
  simp only [Act.put, List.setIfInBounds_toArray, List.set_cons_succ, List.set_cons_zero]
  have hpz : Box (t ++ bt (List.replicate m 0) = bt (padS t.data.toList)) := ⟨by unfold padS; rw [bt_app, bt_of, data_len, hm.out]⟩
  have Bwd : Below wd.heap.size wd wd := Below.refl _ _
  refine go_fork 4 10 (by kernel_rfl) (goOp_wp 4 rfl rfl (fun K hK => ?_)) (goOp_wp 10 rfl rfl (fun K hK => ?_))
  · skip
    have k1wd : Blk wd bw _ _ := (Bwd.block bw hbd.out.lt).trans hbd.out
    have c1wd : wd.cell? ⟨bw, 1, none⟩ = some (.slice pa M pc) := k1wd.cell 1
    go_simp
    refine hK _ _ True.intro ?_
    clear hK K c1wd k1wd
    refine go_forced 10 (by kernel_rfl) (goOp_wp 10 rfl rfl (fun K hK => ?_))
    refine wp_make (.tmp 33) (.tmp 33) 49 rfl wd.heap.size 5 i5 (.int .u8 0) 1 Try.underlying49 hG.out.1 hG.out.2.1 hG.out.2.2.1 .i64 .i64 _ _ m rfl rfl rfl rfl (by rw [hG.out.2.2.2]; omega) (by unfold maxLen; omega) (Nat.le_refl _) ?_
    intro wm hown hgr
    have hconv := zeros_conv wm _ _ _ hown
    have Bwm : Below wd.heap.size wd wm := ⟨hgr.os, hgr.tape, hgr.output, hgr.size, fun k hk => hgr.block k hk (by simp)⟩
    refine hK _ _ True.intro ?_
    clear hK K hown hgr
    simp only [Act.put, List.setIfInBounds_toArray, List.set_cons_succ, List.set_cons_zero]
    refine go_forced 11 (by kernel_rfl) (goOp_wp 11 rfl rfl (fun K hK => ?_))
    go_simp
    refine hK _ _ True.intro ?_
    clear hK K hconv
    refine go_calm 12 (by kernel_rfl) rfl (by kernel_rfl) (by kernel_rfl) True.intro (yields (v := .string (bt (padS t.data.toList))) rfl (fun w' hw' => by go_simp; rw [hpz.out, if_neg (by rw [bt_size, List.length_replicate]; omega)])) ?_
    simp only [Act.put, List.setIfInBounds_toArray, List.set_cons_succ, List.set_cons_zero]
    refine go_calm 13 (by kernel_rfl) rfl (by kernel_rfl) (by kernel_rfl) True.intro (yields (v := .agg #[.int .i64 (n : Int), .string (bt (padS t.data.toList))]) rfl (fun w' hw' => by go_simp)) ?_
    simp only [Act.put, List.setIfInBounds_toArray, List.set_cons_succ, List.set_cons_zero]
    refine go_forced 14 (by kernel_rfl) (goOp_wp 14 rfl rfl (fun K hK => ?_))
    have hnb := Blk.new wm [.int .i64 (n : Int), .string (bt (padS t.data.toList))] 84
    obtain ⟨wk, hwk⟩ : ∃ wk, wm.alloc (.cells #[.int .i64 (n : Int), .string (bt (padS t.data.toList))] 84) = wk := ⟨_, rfl⟩
    have Bwk0 : Below wm.heap.size wm wk := hwk ▸ (Below.refl _ _).alloc (Nat.le_refl _) _
    have Bwk : Below wd.heap.size wd wk := Bwm.trans (Bwk0.mono Bwm.size)
    rw [hwk] at hnb
    go_simp
    refine hK _ _ True.intro ?_
    clear hK K hwk Bwk0
    refine go_forced 15 (by kernel_rfl) (goOp_wp 15 rfl rfl (fun K hK => ?_))
    refine wp_pushR (.tmp 28) (.tmp 38) 64 84 rfl iV (.agg #[.int .i64 0, .string ⟨#[]⟩]) 2 24 Try.underlying64 hH.out.1 hH.out.2.1 hH.out.2.2.1 hH.out.2.2.2 rfl (by omega) (.slice pa M pc) M (wcs D.ws) rfl (hpd.out.chg (Chg.of_below Bwk) (fun k hk => by have := hpd.out.lt k hk; omega)) ⟨wm.heap.size, 0, none⟩ 1 1 [.int .i64 (n : Int), .string (bt (padS t.data.toList))] rfl rfl (fun j u hu => by rw [Addr.add_mid]; rw [← hu, Nat.zero_add]; exact hnb.cell j) (fun u hu => by rcases (show u = _ ∨ u = _ by simpa using hu) with rfl | rfl <;> rfl) (by unfold maxLen; omega) (by omega) ?_
    intro v7 w7 hp7
    obtain ⟨a7, c7, rfl⟩ := hp7.row.shape
    have hfin : Box (QNext w bw F { D.stepD with ws := D.ws ++ [(n, padS t.data.toList)] } (w7.setCell ⟨bw, 1, none⟩ (.slice a7 (M + 1) c7))) := ⟨by
      have e := hM.out
      subst e
      exact q_written h.out hn (by rw [data_len]; exact ht) hcd.out hzd.out hbd.out hsd.out hpd.out hF1.out hF2.out Bwk hp7.row hp7.chg hp7.place⟩
    have hb7 : Blk w7 bw _ _ := hp7.chg.blk ((Bwk.block bw hbd.out.lt).trans hbd.out) (fun hk => hpd.out.apart hbd.out (by decide) hk)
    have c7' : w7.cell? ⟨bw, 1, none⟩ = some (.slice pa M pc) := hb7.cell 1
    have f7 := hb7.free 1
    refine hK _ _ True.intro ?_
    clear hK K hb7 hp7 hnb Bwk
    simp only [Act.put, List.setIfInBounds_toArray, List.set_cons_succ, List.set_cons_zero]
    refine go_calms [16, 17] 1 rfl (by kernel_rfl) (by kernel_rfl) (by kernel_rfl) True.intro ?_
    simp [nth]
    repeat (go_big_quiet_step (first | exact fun _ => rfl | rfl))
    refine wpQuiet_nil ?_
    refine go_forced 18 (by kernel_rfl) (goOp_wp 18 rfl rfl (fun K hK => ?_))
    go_simp
    refine hK _ _ True.intro ?_
    clear hK K
    refine go_done (by kernel_rfl) ?_
    go_wp2_with fail
    go_ret
    exact ⟨rfl, hfin.out⟩
  · skip
    refine wp_make (.tmp 33) (.tmp 33) 49 rfl wd.heap.size 5 i5 (.int .u8 0) 1 Try.underlying49 hG.out.1 hG.out.2.1 hG.out.2.2.1 .i64 .i64 _ _ m rfl rfl rfl rfl (by rw [hG.out.2.2.2]; omega) (by unfold maxLen; omega) (Nat.le_refl _) ?_
    intro wm hown hgr
    have hconv := zeros_conv wm _ _ _ hown
    have Bwm : Below wd.heap.size wd wm := ⟨hgr.os, hgr.tape, hgr.output, hgr.size, fun k hk => hgr.block k hk (by simp)⟩
    refine hK _ _ True.intro ?_
    clear hK K hown hgr
    simp only [Act.put, List.setIfInBounds_toArray, List.set_cons_succ, List.set_cons_zero]
    refine go_fork 4 11 (by kernel_rfl) (goOp_wp 4 rfl rfl (fun K hK => ?_)) (goOp_wp 11 rfl rfl (fun K hK => ?_))
    · skip
      have k1wm : Blk wm bw _ _ := (Bwm.block bw hbd.out.lt).trans hbd.out
      have c1wm : wm.cell? ⟨bw, 1, none⟩ = some (.slice pa M pc) := k1wm.cell 1
      go_simp
      refine hK _ _ True.intro ?_
      clear hK K c1wm k1wm
      refine go_forced 11 (by kernel_rfl) (goOp_wp 11 rfl rfl (fun K hK => ?_))
      go_simp
      refine hK _ _ True.intro ?_
      clear hK K hconv
      refine go_calm 12 (by kernel_rfl) rfl (by kernel_rfl) (by kernel_rfl) True.intro (yields (v := .string (bt (padS t.data.toList))) rfl (fun w' hw' => by go_simp; rw [hpz.out, if_neg (by rw [bt_size, List.length_replicate]; omega)])) ?_
      simp only [Act.put, List.setIfInBounds_toArray, List.set_cons_succ, List.set_cons_zero]
      refine go_calm 13 (by kernel_rfl) rfl (by kernel_rfl) (by kernel_rfl) True.intro (yields (v := .agg #[.int .i64 (n : Int), .string (bt (padS t.data.toList))]) rfl (fun w' hw' => by go_simp)) ?_
      simp only [Act.put, List.setIfInBounds_toArray, List.set_cons_succ, List.set_cons_zero]
      refine go_forced 14 (by kernel_rfl) (goOp_wp 14 rfl rfl (fun K hK => ?_))
      have hnb := Blk.new wm [.int .i64 (n : Int), .string (bt (padS t.data.toList))] 84
      obtain ⟨wk, hwk⟩ : ∃ wk, wm.alloc (.cells #[.int .i64 (n : Int), .string (bt (padS t.data.toList))] 84) = wk := ⟨_, rfl⟩
      have Bwk0 : Below wm.heap.size wm wk := hwk ▸ (Below.refl _ _).alloc (Nat.le_refl _) _
      have Bwk : Below wd.heap.size wd wk := Bwm.trans (Bwk0.mono Bwm.size)
      rw [hwk] at hnb
      go_simp
      refine hK _ _ True.intro ?_
      clear hK K hwk Bwk0
      refine go_forced 15 (by kernel_rfl) (goOp_wp 15 rfl rfl (fun K hK => ?_))
      refine wp_pushR (.tmp 28) (.tmp 38) 64 84 rfl iV (.agg #[.int .i64 0, .string ⟨#[]⟩]) 2 24 Try.underlying64 hH.out.1 hH.out.2.1 hH.out.2.2.1 hH.out.2.2.2 rfl (by omega) (.slice pa M pc) M (wcs D.ws) rfl (hpd.out.chg (Chg.of_below Bwk) (fun k hk => by have := hpd.out.lt k hk; omega)) ⟨wm.heap.size, 0, none⟩ 1 1 [.int .i64 (n : Int), .string (bt (padS t.data.toList))] rfl rfl (fun j u hu => by rw [Addr.add_mid]; rw [← hu, Nat.zero_add]; exact hnb.cell j) (fun u hu => by rcases (show u = _ ∨ u = _ by simpa using hu) with rfl | rfl <;> rfl) (by unfold maxLen; omega) (by omega) ?_
      intro v7 w7 hp7
      obtain ⟨a7, c7, rfl⟩ := hp7.row.shape
      have hfin : Box (QNext w bw F { D.stepD with ws := D.ws ++ [(n, padS t.data.toList)] } (w7.setCell ⟨bw, 1, none⟩ (.slice a7 (M + 1) c7))) := ⟨by
        have e := hM.out
        subst e
        exact q_written h.out hn (by rw [data_len]; exact ht) hcd.out hzd.out hbd.out hsd.out hpd.out hF1.out hF2.out Bwk hp7.row hp7.chg hp7.place⟩
      have hb7 : Blk w7 bw _ _ := hp7.chg.blk ((Bwk.block bw hbd.out.lt).trans hbd.out) (fun hk => hpd.out.apart hbd.out (by decide) hk)
      have c7' : w7.cell? ⟨bw, 1, none⟩ = some (.slice pa M pc) := hb7.cell 1
      have f7 := hb7.free 1
      refine hK _ _ True.intro ?_
      clear hK K hb7 hp7 hnb Bwk
      simp only [Act.put, List.setIfInBounds_toArray, List.set_cons_succ, List.set_cons_zero]
      refine go_calms [16, 17] 1 rfl (by kernel_rfl) (by kernel_rfl) (by kernel_rfl) True.intro ?_
      simp [nth]
      repeat (go_big_quiet_step (first | exact fun _ => rfl | rfl))
      refine wpQuiet_nil ?_
      refine go_forced 18 (by kernel_rfl) (goOp_wp 18 rfl rfl (fun K hK => ?_))
      go_simp
      refine hK _ _ True.intro ?_
      clear hK K
      refine go_done (by kernel_rfl) ?_
      go_wp2_with fail
      go_ret
      exact ⟨rfl, hfin.out⟩
    · skip
      go_simp
      refine hK _ _ True.intro ?_
      clear hK K hconv
      refine go_calm 12 (by kernel_rfl) rfl (by kernel_rfl) (by kernel_rfl) True.intro (yields (v := .string (bt (padS t.data.toList))) rfl (fun w' hw' => by go_simp; rw [hpz.out, if_neg (by rw [bt_size, List.length_replicate]; omega)])) ?_
      simp only [Act.put, List.setIfInBounds_toArray, List.set_cons_succ, List.set_cons_zero]
      refine go_calm 13 (by kernel_rfl) rfl (by kernel_rfl) (by kernel_rfl) True.intro (yields (v := .agg #[.int .i64 (n : Int), .string (bt (padS t.data.toList))]) rfl (fun w' hw' => by go_simp)) ?_
      simp only [Act.put, List.setIfInBounds_toArray, List.set_cons_succ, List.set_cons_zero]
      refine go_fork 4 14 (by kernel_rfl) (goOp_wp 4 rfl rfl (fun K hK => ?_)) (goOp_wp 14 rfl rfl (fun K hK => ?_))
      · skip
        have k1wm : Blk wm bw _ _ := (Bwm.block bw hbd.out.lt).trans hbd.out
        have c1wm : wm.cell? ⟨bw, 1, none⟩ = some (.slice pa M pc) := k1wm.cell 1
        go_simp
        refine hK _ _ True.intro ?_
        clear hK K c1wm k1wm
        refine go_forced 14 (by kernel_rfl) (goOp_wp 14 rfl rfl (fun K hK => ?_))
        have hnb := Blk.new wm [.int .i64 (n : Int), .string (bt (padS t.data.toList))] 84
        obtain ⟨wk, hwk⟩ : ∃ wk, wm.alloc (.cells #[.int .i64 (n : Int), .string (bt (padS t.data.toList))] 84) = wk := ⟨_, rfl⟩
        have Bwk0 : Below wm.heap.size wm wk := hwk ▸ (Below.refl _ _).alloc (Nat.le_refl _) _
        have Bwk : Below wd.heap.size wd wk := Bwm.trans (Bwk0.mono Bwm.size)
        rw [hwk] at hnb
        go_simp
        refine hK _ _ True.intro ?_
        clear hK K hwk Bwk0
        refine go_forced 15 (by kernel_rfl) (goOp_wp 15 rfl rfl (fun K hK => ?_))
        refine wp_pushR (.tmp 28) (.tmp 38) 64 84 rfl iV (.agg #[.int .i64 0, .string ⟨#[]⟩]) 2 24 Try.underlying64 hH.out.1 hH.out.2.1 hH.out.2.2.1 hH.out.2.2.2 rfl (by omega) (.slice pa M pc) M (wcs D.ws) rfl (hpd.out.chg (Chg.of_below Bwk) (fun k hk => by have := hpd.out.lt k hk; omega)) ⟨wm.heap.size, 0, none⟩ 1 1 [.int .i64 (n : Int), .string (bt (padS t.data.toList))] rfl rfl (fun j u hu => by rw [Addr.add_mid]; rw [← hu, Nat.zero_add]; exact hnb.cell j) (fun u hu => by rcases (show u = _ ∨ u = _ by simpa using hu) with rfl | rfl <;> rfl) (by unfold maxLen; omega) (by omega) ?_
        intro v7 w7 hp7
        obtain ⟨a7, c7, rfl⟩ := hp7.row.shape
        have hfin : Box (QNext w bw F { D.stepD with ws := D.ws ++ [(n, padS t.data.toList)] } (w7.setCell ⟨bw, 1, none⟩ (.slice a7 (M + 1) c7))) := ⟨by
          have e := hM.out
          subst e
          exact q_written h.out hn (by rw [data_len]; exact ht) hcd.out hzd.out hbd.out hsd.out hpd.out hF1.out hF2.out Bwk hp7.row hp7.chg hp7.place⟩
        have hb7 : Blk w7 bw _ _ := hp7.chg.blk ((Bwk.block bw hbd.out.lt).trans hbd.out) (fun hk => hpd.out.apart hbd.out (by decide) hk)
        have c7' : w7.cell? ⟨bw, 1, none⟩ = some (.slice pa M pc) := hb7.cell 1
        have f7 := hb7.free 1
        refine hK _ _ True.intro ?_
        clear hK K hb7 hp7 hnb Bwk
        simp only [Act.put, List.setIfInBounds_toArray, List.set_cons_succ, List.set_cons_zero]
        refine go_calms [16, 17] 1 rfl (by kernel_rfl) (by kernel_rfl) (by kernel_rfl) True.intro ?_
        simp [nth]
        repeat (go_big_quiet_step (first | exact fun _ => rfl | rfl))
        refine wpQuiet_nil ?_
        refine go_forced 18 (by kernel_rfl) (goOp_wp 18 rfl rfl (fun K hK => ?_))
        go_simp
        refine hK _ _ True.intro ?_
        clear hK K
        refine go_done (by kernel_rfl) ?_
        go_wp2_with fail
        go_ret
        exact ⟨rfl, hfin.out⟩
      · skip
        have hnb := Blk.new wm [.int .i64 (n : Int), .string (bt (padS t.data.toList))] 84
        obtain ⟨wk, hwk⟩ : ∃ wk, wm.alloc (.cells #[.int .i64 (n : Int), .string (bt (padS t.data.toList))] 84) = wk := ⟨_, rfl⟩
        have Bwk0 : Below wm.heap.size wm wk := hwk ▸ (Below.refl _ _).alloc (Nat.le_refl _) _
        have Bwk : Below wd.heap.size wd wk := Bwm.trans (Bwk0.mono Bwm.size)
        rw [hwk] at hnb
        go_simp
        refine hK _ _ True.intro ?_
        clear hK K hwk Bwk0
        refine go_forced 4 (by kernel_rfl) (goOp_wp 4 rfl rfl (fun K hK => ?_))
        have k1wk : Blk wk bw _ _ := (Bwk.block bw hbd.out.lt).trans hbd.out
        have c1wk : wk.cell? ⟨bw, 1, none⟩ = some (.slice pa M pc) := k1wk.cell 1
        go_simp
        refine hK _ _ True.intro ?_
        clear hK K c1wk k1wk
        refine go_forced 15 (by kernel_rfl) (goOp_wp 15 rfl rfl (fun K hK => ?_))
        refine wp_pushR (.tmp 28) (.tmp 38) 64 84 rfl iV (.agg #[.int .i64 0, .string ⟨#[]⟩]) 2 24 Try.underlying64 hH.out.1 hH.out.2.1 hH.out.2.2.1 hH.out.2.2.2 rfl (by omega) (.slice pa M pc) M (wcs D.ws) rfl (hpd.out.chg (Chg.of_below Bwk) (fun k hk => by have := hpd.out.lt k hk; omega)) ⟨wm.heap.size, 0, none⟩ 1 1 [.int .i64 (n : Int), .string (bt (padS t.data.toList))] rfl rfl (fun j u hu => by rw [Addr.add_mid]; rw [← hu, Nat.zero_add]; exact hnb.cell j) (fun u hu => by rcases (show u = _ ∨ u = _ by simpa using hu) with rfl | rfl <;> rfl) (by unfold maxLen; omega) (by omega) ?_
        intro v7 w7 hp7
        obtain ⟨a7, c7, rfl⟩ := hp7.row.shape
        have hfin : Box (QNext w bw F { D.stepD with ws := D.ws ++ [(n, padS t.data.toList)] } (w7.setCell ⟨bw, 1, none⟩ (.slice a7 (M + 1) c7))) := ⟨by
          have e := hM.out
          subst e
          exact q_written h.out hn (by rw [data_len]; exact ht) hcd.out hzd.out hbd.out hsd.out hpd.out hF1.out hF2.out Bwk hp7.row hp7.chg hp7.place⟩
        have hb7 : Blk w7 bw _ _ := hp7.chg.blk ((Bwk.block bw hbd.out.lt).trans hbd.out) (fun hk => hpd.out.apart hbd.out (by decide) hk)
        have c7' : w7.cell? ⟨bw, 1, none⟩ = some (.slice pa M pc) := hb7.cell 1
        have f7 := hb7.free 1
        refine hK _ _ True.intro ?_
        clear hK K hb7 hp7 hnb Bwk
        simp only [Act.put, List.setIfInBounds_toArray, List.set_cons_succ, List.set_cons_zero]
        refine go_calms [16, 17] 1 rfl (by kernel_rfl) (by kernel_rfl) (by kernel_rfl) True.intro ?_
        simp [nth]
        repeat (go_big_quiet_step (first | exact fun _ => rfl | rfl))
        refine wpQuiet_nil ?_
        refine go_forced 18 (by kernel_rfl) (goOp_wp 18 rfl rfl (fun K hK => ?_))
        go_simp
        refine hK _ _ True.intro ?_
        clear hK K
        refine go_done (by kernel_rfl) ?_
        go_wp2_with fail
        go_ret
        exact ⟨rfl, hfin.out⟩
end Go.Proofs.Ytcccokdbgmejdaa
