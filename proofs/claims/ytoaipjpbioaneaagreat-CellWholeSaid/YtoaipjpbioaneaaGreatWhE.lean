/- The walk of the law CellWhole. -/
import Derived.Test.YtoaipjpbioaneaaGreatMWh
import Derived.Deep.CutRange
namespace Go.Proofs.YtoaipjpbioaneaaGreat
open Go.RowKit Go.Maps

theorem WS.more {base half n i j : Nat} {D : Dev} {M : CellM} (h : WS base half n i D M) (hij : i ≤ j) : WS base half n j D M := ⟨h.snd, h.len, by have := h.t; omega, h.f, by have := h.num; omega⟩
theorem Ends.dark_off {base half : Nat} {D D' : Dev} {M M' : CellM} {e : Int} (h : Ends base half D D' M M' e) : e = 7 → M'.off = true := by
  cases h with
  | done _ => intro h; cases h
  | long _ _ => intro h; cases h
  | dark _ o => exact fun _ => o
theorem crash_len (D : Dev) (keep : List Int) : (D.crash keep).safe.length = D.safe.length := by
  unfold Dev.crash settle; simp only [settleN_length]
set_option maxHeartbeats 6400000 in
set_option maxRecDepth 100000 in
theorem whole_law (a : Option Addr) (L C : Nat) (fl : UInt8) (fv : Value) (keep : List Int) (w : World) (hA : OpsAt w a L) (hLC : L ≤ C ∧ C ≤ maxLen) (hI : Ints w (fun k => k < w.heap.size) fv keep) (hkl : keep.length ≤ 9223372036854775807) :
    Calls Tryz.prog 3 #[.slice a L C, .int .u8 (fl.toNat : Int), .agg #[fv]] w fun e w' => e = .returned (.bool true) ∧ Below w.heap.size w w' := by
  have hbox := Box.mk ((Below.refl w.heap.size w).alloc (Nat.le_refl _) (.cells #[fv] 25))
  obtain ⟨wA, hwA⟩ : ∃ wA, w.alloc (.cells #[fv] 25) = wA := ⟨_, rfl⟩
  obtain ⟨bf, hbf⟩ : ∃ bf, w.heap.size = bf := ⟨_, rfl⟩
  have hfb := Blk.new w [fv] 25
  rw [show w.alloc (.cells [fv].toArray 25) = wA from hwA, hbf] at hfb
  rw [hwA] at hbox
  have hK := Box.mk (commits_any wA)
  have hmin : ∃ N : Nat, min L 40 = N := ⟨_, rfl⟩
  obtain ⟨N, hN⟩ := hmin
  have hN40 : N ≤ 40 := by omega
  have hNL : N ≤ L := by omega
  have hmn : Box ((if (40 : Int) < (L : Int) then (40 : Int) else (L : Int)) = (N : Int)) := ⟨by split <;> omega⟩
  have hLb : L ≤ 9223372036854775807 := by have := hLC.2; unfold maxLen at this; omega
  have hA2 := Box.mk (hA.less hNL)
  replace hfb := Box.mk hfb
  replace hI := Box.mk hI
  have hLC1 := hLC.1
  replace hLC := Box.mk hLC
  replace hN := Box.mk hN
  clear hA
  go_enter Tryz.func3, Tryz.ntmps3
  go_wp2_with fail
  refine hK.out.mono ?_
  rintro e w1 ⟨rfl, hb1⟩
  have hB1 : Box (Below w.heap.size w w1) := ⟨hbox.out.trans (hb1.mono hbox.out.size)⟩
  have hbfl := hfb.out.lt
  have hfb1 : Box (Blk w1 bf [fv] 25) := ⟨(hb1.block bf hbfl).trans hfb.out⟩
  have hBg := Box.mk (begun04_fit 20 w1 (by omega) (by omega))
  clear hK hb1 hbfl hfb hwA
  go_wp2_with fail
  refine hBg.out.mono ?_
  rintro e w2 ⟨ba, bd, bw, F, G, rfl, hba, hbl, hD, hQ, hF, hG, hb2⟩
  have hO := open04 w1 w2 ba bd bw F G 20 2 8 hb2 hba hbl hD hQ (fun k hk => ⟨(hF k hk).1, (hF k hk).2.2⟩) (fun k hk => ⟨(hG k hk).1, (hG k hk).2.1, (hG k hk).2.2⟩) (by omega) (by omega) (by omega)
  replace hO := Box.mk hO
  clear hBg hba hbl hD hQ hF hG hb2
  go_wp2_with fail
  refine hO.out.mono ?_
  rintro e w3 ⟨rfl, hop⟩
  obtain ⟨bc, bq, hK3⟩ := hop.out
  have hW3 : WS 2 8 20 0 (Dev.new 20) M0 := ⟨Sound.new 20 2 8 (by omega) (by omega) (by omega), by rw [new_len], Nat.zero_le _, rfl, Nat.le_refl _⟩
  have hst : Box (∃ D M, Kept w1 (AllO ba bd bc bw bq 2 8 D M) w3 ∧ WS 2 8 20 0 D M) := ⟨_, _, hK3, hW3⟩
  clear hO hop hK3 hW3
  go_wp2_with (refine wpList_min2 rfl (.tmp 29) (.const (.int .i64 40)) 3 rfl (L : Int) 40 (N : Int) rfl rfl hmn.out ?_)
  replace hLC1 := Box.mk hLC1
  replace hNL := Box.mk hNL
  go_loopw [33] (fun q wr => ∃ i : Nat, i ≤ N ∧ q = .int .i64 (i : Int) ∧ Box (∃ D M, Kept w1 (AllO ba bd bc bw bq 2 8 D M) wr ∧ WS 2 8 20 i D M)) (fun q _ => N - (intOf q).toNat)
  case atStart => exact ⟨0, by omega, rfl, hst⟩
  case round =>
    clear hst
    obtain ⟨i, hi, rfl, hst⟩ := hrel
    by_cases hiN : i < N
    · obtain ⟨D, M, hk, hs⟩ := hst.out
      obtain ⟨cb, co, rfl, hcb, each⟩ := hA2.out.out (by omega)
      obtain ⟨k, s, t, n, va, vl, vc, hx, hsl, htl⟩ := each i hiN
      have hx2 : wr.rangeAt cb (co + i * 5) (opC k s t n (.slice va vl vc)) := range_below (range_below hx hB1.out hcb) (hk.k) (Nat.lt_of_lt_of_le hcb hB1.out.size)
      obtain ⟨w4, hw4⟩ : ∃ w4, wr.alloc (.cells #[.int .u8 (k.toNat : Int), .string s, .string t, .int .i64 n, .slice va vl vc] 31) = w4 := ⟨_, rfl⟩
      have hb4 := Blk.new wr (opC k s t n (.slice va vl vc)) 31
      rw [show wr.alloc (.cells (opC k s t n (.slice va vl vc)).toArray 31) = w4 from hw4] at hb4
      have hk4 := hk.below (AllO.good _ _ _ _ _ _ _ _ _) (hw4 ▸ (Below.refl _ _).alloc (Nat.le_refl _) _ : Below wr.heap.size wr w4)
      obtain ⟨bo, hbo⟩ : ∃ bo, wr.heap.size = bo := ⟨_, rfl⟩
      rw [hbo] at hb4
      have o0 : w4.cell? ⟨bo, 0, none⟩ = some (.int .u8 (k.toNat : Int)) := hb4.cell 0
      have o1 : w4.cell? ⟨bo, 1, none⟩ = some (.string s) := hb4.cell 1
      have o2 : w4.cell? ⟨bo, 2, none⟩ = some (.string t) := hb4.cell 2
      have o3 : w4.cell? ⟨bo, 3, none⟩ = some (.int .i64 n) := hb4.cell 3
      have o4 : w4.cell? ⟨bo, 4, none⟩ = some (.slice va vl vc) := hb4.cell 4
      obtain ⟨kk, hkk⟩ : ∃ kk : Nat, k.toNat % 10 = kk := ⟨_, rfl⟩
      have hki : (k.toNat : Int) % 10 = (kk : Int) := by omega
      unfold opC at hx2
      replace hx2 := Box.mk hx2
      replace hb4 := Box.mk hb4
      by_cases h7 : kk < 7
      · have hS := step_all (n := 20) (m := n) (v := .slice va vl vc) hk4 hs (by omega) (by omega) (by omega : k.toNat % 10 < 7) hsl htl 2 8
        obtain ⟨m1, m2, m3⟩ := hs.next (by omega) (by omega) (k.toNat % 10) s.data.toList t.data.toList
        have hS2 := hS.mono (R' := fun e w' => e = .returned (.bool true) ∧ Box (∃ D M, Kept w1 (AllO ba bd bc bw bq 2 8 D M) w' ∧ WS 2 8 20 (i + 1) D M)) fun e w' ⟨x, y⟩ => ⟨x, ⟨_, _, y.out, m1⟩⟩
        replace hS2 := Box.mk hS2
        have h7i : (kk : Int) < 7 := by omega
        clear hS m1 m2 m3 hst each hk hs hk4 hkk hx
        go_wp2_with (refine wpList_load_mid (cs := [.int .u8 (k.toNat : Int), .string s, .string t, .int .i64 n, .slice va vl vc]) rfl 31 (.tmp 35) rfl cb (co + i * 5) rfl _ hx2.out Tryz.underlying31 rfl (by kernel_rfl) ?_)
        refine hS2.out.mono ?_
        rintro e w5 ⟨rfl, hst2⟩
        clear hS2 o0 o1 o2 o3 o4 hb4 hx2
        go_wp2_with fail
        exact ⟨⟨i + 1, by omega, by go_num, hst2⟩, by simp [intOf]; omega⟩
      · have hst2 : Box (∃ D M, Kept w1 (AllO ba bd bc bw bq 2 8 D M) w4 ∧ WS 2 8 20 (i + 1) D M) := ⟨_, _, hk4, hs.more (by omega)⟩
        have h7i : ¬ (kk : Int) < 7 := by omega
        clear hst each hk hs hk4 hkk hx
        go_wp2_with (refine wpList_load_mid (cs := [.int .u8 (k.toNat : Int), .string s, .string t, .int .i64 n, .slice va vl vc]) rfl 31 (.tmp 35) rfl cb (co + i * 5) rfl _ hx2.out Tryz.underlying31 rfl (by kernel_rfl) ?_)
        exact ⟨⟨i + 1, by omega, by go_num, hst2⟩, by simp [intOf]; omega⟩
    · obtain rfl : i = N := by omega
      obtain ⟨D, M, hk, hs⟩ := hst.out
      obtain ⟨vn, vw, hbq, hbig⟩ := hk.big
      obtain ⟨hrn, hrw⟩ := hbig.bigR
      obtain ⟨an, cn, rfl⟩ := hrn.shape
      obtain ⟨aw, cw, rfl⟩ := hrw.shape
      have hbW := hbig.bigW
      obtain ⟨GC, hCel⟩ := hbig.bigC
      obtain ⟨bn, pn, hbc, -⟩ := hCel.out
      have hCd : Box (wr.drew.cell? ⟨ba, 1, none⟩ = some (.pointer (some ⟨bc, 0, none⟩)) ∧ wr.drew.cell? ⟨ba, 3, none⟩ = some (.pointer (some ⟨bq, 0, none⟩)) ∧ wr.drew.cell? ⟨bq, 3, none⟩ = some (.slice an M.now.length cn) ∧ wr.drew.cell? ⟨bq, 4, none⟩ = some (.slice aw M.was.length cw)) := ⟨hbW.cell 1, hbW.cell 3, hbq.cell 3, hbq.cell 4⟩
      have hNu := Box.mk (num_any bc _ _ M.num _ wr.drew hbc)
      have hbd := Box.mk (hbig.below BigO.good (below_drew' _ wr))
      have hs1 := Box.mk (hs.snd.falls ((fl.toNat : Int) % 16))
      have ht1 : Box ((D.falls ((fl.toNat : Int) % 16)).taken ≤ 800 ∧ (D.falls ((fl.toNat : Int) % 16)).fall ≤ 16 ∧ (D.falls ((fl.toNat : Int) % 16)).safe.length = 20 ∧ M.num ≤ 40) := ⟨by show D.taken ≤ 800; have := hs.t; omega, by show (max ((fl.toNat : Int) % 16) 0).toNat ≤ 16; omega, hs.len, by have := hs.num; omega⟩
      clear hst hk hs hbq hbig hrn hrw hbW hCel hbc hA2 hmn
      go_wp2_with fail
      refine region_go (C := fun w' => w'.cell? ⟨ba, 1, none⟩ = some (.pointer (some ⟨bc, 0, none⟩)) ∧ w'.cell? ⟨ba, 3, none⟩ = some (.pointer (some ⟨bq, 0, none⟩)) ∧ w'.cell? ⟨bq, 3, none⟩ = some (.slice an M.now.length cn) ∧ w'.cell? ⟨bq, 4, none⟩ = some (.slice aw M.was.length cw)) rfl ?_
      generalize wr.drew = wd at hCd hNu hbd ⊢
      refine go_calms [0, 1, 2, 3, 4, 5, 6, 7, 8, 9, 10, 11, 12, 13, 14, 15, 16, 17] 4 rfl (by kernel_rfl) (by kernel_rfl) (by kernel_rfl) hCd.out ?_
      simp [nth]
      try simp only [Act.put]
      repeat (go_big_quiet_step (first | exact fun _ => rfl | rfl))
      refine quiet_any rfl (.pointer (some ⟨ba, 0, none⟩)) (fun w' hw' => by
        have h1 := hw'.1
        have h2 := hw'.2.1
        have h3 := hw'.2.2.1
        have h4 := hw'.2.2.2
        go_simp) ?_
      simp only [Act.put, List.setIfInBounds_toArray, List.set_cons_succ, List.set_cons_zero]
      refine quiet_any rfl (.pointer (some ⟨ba, 3, none⟩)) (fun w' hw' => by
        have h1 := hw'.1
        have h2 := hw'.2.1
        have h3 := hw'.2.2.1
        have h4 := hw'.2.2.2
        go_simp) ?_
      simp only [Act.put, List.setIfInBounds_toArray, List.set_cons_succ, List.set_cons_zero]
      refine quiet_any rfl (.pointer (some ⟨bq, 0, none⟩)) (fun w' hw' => by
        have h1 := hw'.1
        have h2 := hw'.2.1
        have h3 := hw'.2.2.1
        have h4 := hw'.2.2.2
        go_simp) ?_
      simp only [Act.put, List.setIfInBounds_toArray, List.set_cons_succ, List.set_cons_zero]
      refine quiet_any rfl (.pointer (some ⟨bq, 0, none⟩)) (fun w' hw' => by
        have h1 := hw'.1
        have h2 := hw'.2.1
        have h3 := hw'.2.2.1
        have h4 := hw'.2.2.2
        go_simp) ?_
      simp only [Act.put, List.setIfInBounds_toArray, List.set_cons_succ, List.set_cons_zero]
      refine quiet_any rfl (.pointer (some ⟨bq, 4, none⟩)) (fun w' hw' => by
        have h1 := hw'.1
        have h2 := hw'.2.1
        have h3 := hw'.2.2.1
        have h4 := hw'.2.2.2
        go_simp) ?_
      simp only [Act.put, List.setIfInBounds_toArray, List.set_cons_succ, List.set_cons_zero]
      refine quiet_any rfl (.slice aw M.was.length cw) (fun w' hw' => by
        have h1 := hw'.1
        have h2 := hw'.2.1
        have h3 := hw'.2.2.1
        have h4 := hw'.2.2.2
        go_simp) ?_
      simp only [Act.put, List.setIfInBounds_toArray, List.set_cons_succ, List.set_cons_zero]
      repeat (go_big_quiet_step (first | exact fun _ => rfl | rfl))
      refine quiet_any rfl (.pointer (some ⟨ba, 0, none⟩)) (fun w' hw' => by
        have h1 := hw'.1
        have h2 := hw'.2.1
        have h3 := hw'.2.2.1
        have h4 := hw'.2.2.2
        go_simp) ?_
      simp only [Act.put, List.setIfInBounds_toArray, List.set_cons_succ, List.set_cons_zero]
      refine quiet_any rfl (.pointer (some ⟨ba, 3, none⟩)) (fun w' hw' => by
        have h1 := hw'.1
        have h2 := hw'.2.1
        have h3 := hw'.2.2.1
        have h4 := hw'.2.2.2
        go_simp) ?_
      simp only [Act.put, List.setIfInBounds_toArray, List.set_cons_succ, List.set_cons_zero]
      refine quiet_any rfl (.pointer (some ⟨bq, 0, none⟩)) (fun w' hw' => by
        have h1 := hw'.1
        have h2 := hw'.2.1
        have h3 := hw'.2.2.1
        have h4 := hw'.2.2.2
        go_simp) ?_
      simp only [Act.put, List.setIfInBounds_toArray, List.set_cons_succ, List.set_cons_zero]
      refine quiet_any rfl (.pointer (some ⟨bq, 0, none⟩)) (fun w' hw' => by
        have h1 := hw'.1
        have h2 := hw'.2.1
        have h3 := hw'.2.2.1
        have h4 := hw'.2.2.2
        go_simp) ?_
      simp only [Act.put, List.setIfInBounds_toArray, List.set_cons_succ, List.set_cons_zero]
      refine quiet_any rfl (.pointer (some ⟨bq, 3, none⟩)) (fun w' hw' => by
        have h1 := hw'.1
        have h2 := hw'.2.1
        have h3 := hw'.2.2.1
        have h4 := hw'.2.2.2
        go_simp) ?_
      simp only [Act.put, List.setIfInBounds_toArray, List.set_cons_succ, List.set_cons_zero]
      refine quiet_any rfl (.slice an M.now.length cn) (fun w' hw' => by
        have h1 := hw'.1
        have h2 := hw'.2.1
        have h3 := hw'.2.2.1
        have h4 := hw'.2.2.2
        go_simp) ?_
      simp only [Act.put, List.setIfInBounds_toArray, List.set_cons_succ, List.set_cons_zero]
      repeat (go_big_quiet_step (first | exact fun _ => rfl | rfl))
      refine quiet_any rfl (.pointer (some ⟨ba, 0, none⟩)) (fun w' hw' => by
        have h1 := hw'.1
        have h2 := hw'.2.1
        have h3 := hw'.2.2.1
        have h4 := hw'.2.2.2
        go_simp) ?_
      simp only [Act.put, List.setIfInBounds_toArray, List.set_cons_succ, List.set_cons_zero]
      refine quiet_any rfl (.pointer (some ⟨ba, 1, none⟩)) (fun w' hw' => by
        have h1 := hw'.1
        have h2 := hw'.2.1
        have h3 := hw'.2.2.1
        have h4 := hw'.2.2.2
        go_simp) ?_
      simp only [Act.put, List.setIfInBounds_toArray, List.set_cons_succ, List.set_cons_zero]
      refine quiet_any rfl (.pointer (some ⟨bc, 0, none⟩)) (fun w' hw' => by
        have h1 := hw'.1
        have h2 := hw'.2.1
        have h3 := hw'.2.2.1
        have h4 := hw'.2.2.2
        go_simp) ?_
      simp only [Act.put, List.setIfInBounds_toArray, List.set_cons_succ, List.set_cons_zero]
      refine wpQuiet_nil ?_
      refine go_forced 18 (by kernel_rfl) (goOp_wp 18 rfl rfl (fun K hK => ?_))
      go_simp
      refine hNu.out.mono ?_
      rintro e w4 ⟨rfl, rfl⟩
      refine hK _ _ hCd.out ?_
      clear hK K hNu
      try simp only [Act.put]
      refine go_calms [19, 20, 21] 0 rfl (by kernel_rfl) (by kernel_rfl) (by kernel_rfl) hCd.out ?_
      simp [nth]
      try simp only [Act.put]
      repeat (go_big_quiet_step (first | exact fun _ => rfl | rfl))
      refine wpQuiet_nil ?_
      refine go_done (by kernel_rfl) ?_
      have d0 : wd.cell? ⟨ba, 0, none⟩ = some (.pointer (some ⟨bd, 0, none⟩)) := hbd.out.bigW.cell 0
      have hFa := Box.mk (big_fall hbd.out ((fl.toNat : Int) % 16) (by omega))
      clear hCd
      go_wp2_with fail
      refine hFa.out.mono ?_
      rintro e w4 ⟨rfl, hb4⟩
      have d1 : w4.cell? ⟨ba, 1, none⟩ = some (.pointer (some ⟨bc, 0, none⟩)) := hb4.out.bigW.cell 1
      have hCo := Box.mk (big_commit hb4.out hs1.out (by have := ht1.out.1; omega) (by have := ht1.out.2.1; omega) (by have := ht1.out.2.2.2; omega))
      generalize D.falls ((fl.toNat : Int) % 16) = D1 at hCo hs1 ht1 hb4
      clear hFa hbd d0 hb4
      go_wp2_with fail
      refine hCo.out.mono ?_
      rintro e w5 ⟨ee, D2, M2, rfl, h5⟩
      obtain ⟨f1, f2, f3, fe, num, c, last, hs3, hcase⟩ := h5.out.2.found hs1.out keep
      have hoff := h5.out.2.dark_off
      have hbf5 : Blk w5.drew bf [fv] 25 := (h5.out.1.k.block bf hfb1.out.lt).trans hfb1.out
      have hCd5 : Box (w5.drew.cell? ⟨ba, 0, none⟩ = some (.pointer (some ⟨bd, 0, none⟩)) ∧ w5.drew.cell? ⟨bf, 0, none⟩ = some fv) := ⟨h5.out.1.bigW.cell 0, hbf5.cell 0⟩
      have hbd5 := Box.mk (h5.out.1.below BigO.good (below_drew' _ w5))
      have hI1 : Ints w1 (fun k => k < w1.heap.size) fv keep := by
        obtain ⟨a, c, e, hc⟩ := (hI.out.chg (Chg.of_below hB1.out) fun k hk hk2 => by omega).out
        have hsz := hB1.out.size
        exact ⟨⟨a, c, e, fun h0 => by
          obtain ⟨cb, co, e1, h1, h2, h3⟩ := hc h0
          exact ⟨cb, co, e1, h1, h1, h3⟩⟩⟩
      have hCr := Box.mk (big_crash hbd5.out fv keep f1 f3 hI1 hkl)
      have hlen : 2 + 2 * 8 ≤ (D2.crash keep).safe.length := by
        have e0 : (D2.crash keep).safe.length = D2.safe.length := crash_len D2 keep
        have := ht1.out.2.2.1
        omega
      replace hlen := Box.mk hlen
      replace hs3 := Box.mk hs3
      replace hcase := Box.mk hcase
      replace hoff := Box.mk hoff
      generalize D2.crash keep = D3 at hCr hlen hs3
      clear hCo d1 h5 hbf5 hI1 f1 f2 f3
      go_wp2_with fail
      refine region_go (C := fun w' => w'.cell? ⟨ba, 0, none⟩ = some (.pointer (some ⟨bd, 0, none⟩)) ∧ w'.cell? ⟨bf, 0, none⟩ = some fv) rfl ?_
      generalize w5.drew = wd5 at hCd5 hCr hbd5 ⊢
      refine go_calms [0, 1, 2, 3, 4] 1 rfl (by kernel_rfl) (by kernel_rfl) (by kernel_rfl) hCd5.out ?_
      simp [nth]
      try simp only [Act.put]
      repeat (go_big_quiet_step (first | exact fun _ => rfl | rfl))
      refine quiet_any rfl (.pointer (some ⟨ba, 0, none⟩)) (fun w' hw' => by
        have h1 := hw'.1
        have h2 := hw'.2
        go_simp) ?_
      simp only [Act.put, List.setIfInBounds_toArray, List.set_cons_succ, List.set_cons_zero]
      refine quiet_any rfl (.pointer (some ⟨ba, 0, none⟩)) (fun w' hw' => by
        have h1 := hw'.1
        have h2 := hw'.2
        go_simp) ?_
      simp only [Act.put, List.setIfInBounds_toArray, List.set_cons_succ, List.set_cons_zero]
      refine quiet_any rfl (.pointer (some ⟨bd, 0, none⟩)) (fun w' hw' => by
        have h1 := hw'.1
        have h2 := hw'.2
        go_simp) ?_
      simp only [Act.put, List.setIfInBounds_toArray, List.set_cons_succ, List.set_cons_zero]
      refine quiet_any rfl (.agg #[fv]) (fun w' hw' => by
        have h1 := hw'.1
        have h2 := hw'.2
        go_simp) ?_
      simp only [Act.put, List.setIfInBounds_toArray, List.set_cons_succ, List.set_cons_zero]
      refine wpQuiet_nil ?_
      refine go_forced 5 (by kernel_rfl) (goOp_wp 5 rfl rfl (fun K hK => ?_))
      go_simp
      refine hCr.out.mono ?_
      rintro e w6 ⟨rfl, hk6⟩
      have hW6 := hk6.out.bigW
      have hB5 := hk6.out.k
      have hbf6 : Blk w6 bf [fv] 25 := (hB5.block bf hfb1.out.lt).trans hfb1.out
      refine hK _ _ ⟨hW6.cell 0, hbf6.cell 0⟩ ?_
      clear hK K hCr hbf6 hB5 hCd5 hbd5
      refine go_done (by kernel_rfl) ?_
      have d0 : w6.cell? ⟨ba, 0, none⟩ = some (.pointer (some ⟨bd, 0, none⟩)) := hW6.cell 0
      have hOp := Box.mk (fin_open hk6.out hs3.out rfl hlen.out)
      clear hW6 hk6
      go_wp2_with fail
      refine hOp.out.mono ?_
      rintro e w7 ⟨b2, rfl, hk7⟩
      have hm40 : M.num ≤ 40 := ht1.out.2.2.2
      have d1 : w7.cell? ⟨ba, 1, none⟩ = some (.pointer (some ⟨bc, 0, none⟩)) := hk7.out.finW.cell 1
      clear hOp d0 hlen hs3 hfb1 hI ht1
      rcases fe with rfl | rfl | rfl
      · have hnum : Box ((atM num c last).num = M.num + 1) := ⟨by rcases hcase.out with ⟨h1, -, -⟩ | ⟨-, -, h1⟩; exact h1; exact absurd rfl h1⟩
        have hcc : Box (c = M.now) := ⟨by rcases hcase.out with ⟨-, h1, -⟩ | ⟨-, -, h1⟩; exact h1; exact absurd rfl h1⟩
        clear d1
        have hS8 := fin_now hk7.out hs1.out.ok.now
        rw [show decide ((atM num c last).now = M.now) = true from decide_eq_true hcc.out] at hS8
        replace hS8 := Box.mk hS8
        clear hk7
        go_wp2_with fail
        refine hS8.out.mono ?_
        rintro e w8 ⟨rfl, hk8⟩
        clear hS8
        have hNu : Box (Calls Tryz.prog 9 #[.pointer (some ⟨b2, 0, none⟩)] w8 fun e w' => e = .returned (.int .i64 ((M.num : Int) + 1)) ∧ w8 = w') := ⟨(fin_num hk8.out).mono fun e w' ⟨h1, h2⟩ => ⟨by rw [h1, hnum.out, Int.natCast_add]; rfl, h2⟩⟩
        go_wp2_with fail
        refine hNu.out.mono ?_
        rintro e wz ⟨rfl, rfl⟩
        clear hNu
        have hBz : Box (Below w.heap.size w w8) := ⟨hB1.out.trans (hk8.out.k.mono hB1.out.size)⟩
        clear hk8
        go_wp2_with fail
        go_returns
        exact ⟨rfl, hBz.out⟩
      · have hnum : Box ((atM num c last).num = M.num) := ⟨by rcases hcase.out with ⟨-, -, h1⟩ | ⟨h1, -, -⟩; exact absurd rfl h1; exact h1⟩
        have hcc : Box (c = M.was) := ⟨by rcases hcase.out with ⟨-, -, h1⟩ | ⟨-, h1, -⟩; exact absurd rfl h1; exact h1⟩
        clear d1
        have hS8 := fin_was hk7.out hs1.out.ok.was
        rw [show decide ((atM num c last).now = M.was) = true from decide_eq_true hcc.out] at hS8
        replace hS8 := Box.mk hS8
        clear hk7
        go_wp2_with fail
        refine hS8.out.mono ?_
        rintro e w8 ⟨rfl, hk8⟩
        clear hS8
        have hNu : Box (Calls Tryz.prog 9 #[.pointer (some ⟨b2, 0, none⟩)] w8 fun e w' => e = .returned (.int .i64 ((M.num : Int))) ∧ w8 = w') := ⟨(fin_num hk8.out).mono fun e w' ⟨h1, h2⟩ => ⟨by rw [h1, hnum.out], h2⟩⟩
        go_wp2_with fail
        refine hNu.out.mono ?_
        rintro e wz ⟨rfl, rfl⟩
        clear hNu
        have hBz : Box (Below w.heap.size w w8) := ⟨hB1.out.trans (hk8.out.k.mono hB1.out.size)⟩
        clear hk8
        go_wp2_with fail
        go_returns
        exact ⟨rfl, hBz.out⟩
      · have hOf := Box.mk (fin_off hk7.out (hoff.out rfl))
        go_wp2_with fail
        refine hOf.out.mono ?_
        rintro e w8 ⟨rfl, rfl⟩
        clear hOf d1
        rcases hcase.out with ⟨hn, hc, -⟩ | ⟨hn, hc, -⟩
        · have hnum : Box ((atM num c last).num = M.num + 1) := ⟨hn⟩
          replace hcc := Box.mk hc
          clear hn hc
          by_cases hsw : c = M.was
          · replace hsw := Box.mk hsw
            have hS8 := fin_was hk7.out hs1.out.ok.was
            rw [show decide ((atM num c last).now = M.was) = true from decide_eq_true hsw.out] at hS8
            replace hS8 := Box.mk hS8
            clear hk7
            go_wp2_with fail
            refine hS8.out.mono ?_
            rintro e w8 ⟨rfl, hk8⟩
            clear hS8
            have hNu : Box (Calls Tryz.prog 9 #[.pointer (some ⟨b2, 0, none⟩)] w8 fun e w' => e = .returned (.int .i64 ((M.num : Int) + 1)) ∧ w8 = w') := ⟨(fin_num hk8.out).mono fun e w' ⟨h1, h2⟩ => ⟨by rw [h1, hnum.out, Int.natCast_add]; rfl, h2⟩⟩
            go_wp2_with fail
            refine hNu.out.mono ?_
            rintro e wz ⟨rfl, rfl⟩
            clear hNu
            have hS9 := fin_now hk8.out hs1.out.ok.now
            rw [show decide ((atM num c last).now = M.now) = true from decide_eq_true hcc.out] at hS9
            replace hS9 := Box.mk hS9
            clear hk8
            go_wp2_with fail
            refine hS9.out.mono ?_
            rintro e w9 ⟨rfl, hk9⟩
            clear hS9
            have hNu : Box (Calls Tryz.prog 9 #[.pointer (some ⟨b2, 0, none⟩)] w9 fun e w' => e = .returned (.int .i64 ((M.num : Int) + 1)) ∧ w9 = w') := ⟨(fin_num hk9.out).mono fun e w' ⟨h1, h2⟩ => ⟨by rw [h1, hnum.out, Int.natCast_add]; rfl, h2⟩⟩
            go_wp2_with fail
            refine hNu.out.mono ?_
            rintro e wz ⟨rfl, rfl⟩
            clear hNu
            have hBz : Box (Below w.heap.size w w9) := ⟨hB1.out.trans (hk9.out.k.mono hB1.out.size)⟩
            clear hk9
            go_wp2_with fail
            go_returns
            exact ⟨rfl, hBz.out⟩
          · replace hsw := Box.mk hsw
            have hS8 := fin_was hk7.out hs1.out.ok.was
            rw [show decide ((atM num c last).now = M.was) = false from decide_eq_false hsw.out] at hS8
            replace hS8 := Box.mk hS8
            clear hk7
            go_wp2_with fail
            refine hS8.out.mono ?_
            rintro e w8 ⟨rfl, hk8⟩
            clear hS8
            have hS9 := fin_now hk8.out hs1.out.ok.now
            rw [show decide ((atM num c last).now = M.now) = true from decide_eq_true hcc.out] at hS9
            replace hS9 := Box.mk hS9
            clear hk8
            go_wp2_with fail
            refine hS9.out.mono ?_
            rintro e w9 ⟨rfl, hk9⟩
            clear hS9
            have hNu : Box (Calls Tryz.prog 9 #[.pointer (some ⟨b2, 0, none⟩)] w9 fun e w' => e = .returned (.int .i64 ((M.num : Int) + 1)) ∧ w9 = w') := ⟨(fin_num hk9.out).mono fun e w' ⟨h1, h2⟩ => ⟨by rw [h1, hnum.out, Int.natCast_add]; rfl, h2⟩⟩
            go_wp2_with fail
            refine hNu.out.mono ?_
            rintro e wz ⟨rfl, rfl⟩
            clear hNu
            have hBz : Box (Below w.heap.size w w9) := ⟨hB1.out.trans (hk9.out.k.mono hB1.out.size)⟩
            clear hk9
            go_wp2_with fail
            go_returns
            exact ⟨rfl, hBz.out⟩
        · have hnum : Box ((atM num c last).num = M.num) := ⟨hn⟩
          replace hcc := Box.mk hc
          clear hn hc
          have hS8 := fin_was hk7.out hs1.out.ok.was
          rw [show decide ((atM num c last).now = M.was) = true from decide_eq_true hcc.out] at hS8
          replace hS8 := Box.mk hS8
          clear hk7
          go_wp2_with fail
          refine hS8.out.mono ?_
          rintro e w8 ⟨rfl, hk8⟩
          clear hS8
          have hNu : Box (Calls Tryz.prog 9 #[.pointer (some ⟨b2, 0, none⟩)] w8 fun e w' => e = .returned (.int .i64 ((M.num : Int))) ∧ w8 = w') := ⟨(fin_num hk8.out).mono fun e w' ⟨h1, h2⟩ => ⟨by rw [h1, hnum.out], h2⟩⟩
          go_wp2_with fail
          refine hNu.out.mono ?_
          rintro e wz ⟨rfl, rfl⟩
          clear hNu
          have hBz : Box (Below w.heap.size w w8) := ⟨hB1.out.trans (hk8.out.k.mono hB1.out.size)⟩
          clear hk8
          go_wp2_with fail
          go_returns
          exact ⟨rfl, hBz.out⟩
end Go.Proofs.YtoaipjpbioaneaaGreat
