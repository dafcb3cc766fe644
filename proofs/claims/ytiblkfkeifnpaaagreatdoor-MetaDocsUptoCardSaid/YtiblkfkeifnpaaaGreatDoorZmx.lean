/- meta: Decode of the document: targets. -/
import Derived.Test.YtiblkfkeifnpaaaGreatDoorZmj
set_option linter.all false
namespace Go.Proofs.YtiblkfkeifnpaaaGreatDoor.Me
open Go Go.RowKit Go.Proofs.YtiblkfkeifnpaaaGreatDoor Go.Proofs.YtiblkfkeifnpaaaGreatDoor.Nt
set_option maxHeartbeats 3200000 in
set_option maxRecDepth 100000 in
theorem rdec_2 (s : ByteArray) (B : Nat) (w : World) (hL : NL B w) (hB : B ≤ w.heap.size) (hk : (Pk.numR 1 s.data.toList 0).1 = 2) :
    Calls Tryz.prog 13 #[.string s] w fun e w' => DecS w.heap.size s.data.toList e w' ∧ Below w.heap.size w w' := by
  obtain ⟨W1, hW1, hB1, hS1⟩ := doc_new w dc0 zz0 30
  have hW1 : w.alloc (.cells #[.int .i64 0, .int .i64 0, .int .i64 0, .slice none 0 0, .int .i64 0, .slice none 0 0, .int .i64 0, .slice none 0 0, .int .i64 0, .slice none 0 0, .int .i64 0, .slice none 0 0, .int .i64 0, .string ⟨#[]⟩, .string ⟨#[]⟩, .slice none 0 0, .string ⟨#[]⟩, .int .i64 0, .string ⟨#[]⟩, .int .i64 0, .string ⟨#[]⟩] 30) = W1 := hW1
  have hq := Pk.xread_new s W1
  obtain ⟨l, hl⟩ : ∃ l, s.data.toList = l := ⟨_, rfl⟩
  rw [hl] at hq hk ⊢
  have hLB := Box.mk fun (w' : World) (hb : Below w.heap.size w w') => (⟨hL.here hB hb, by have := hb.size; omega⟩ : NL B w' ∧ B ≤ w'.heap.size)
  have hlt := hS1.lt
  obtain ⟨b2, hb2⟩ : ∃ b2, w.heap.size = b2 := ⟨_, rfl⟩
  obtain ⟨br, hbr⟩ : ∃ br, W1.heap.size = br := ⟨_, rfl⟩
  rw [hb2] at hS1
  have hS1 := Box.mk hS1
  rw [hbr] at hq
  replace hq := Box.mk hq
  clear hl hL hB
  go_enter Tryz.func13, Tryz.ntmps13
  go_wp2_with fail
  refine hq.out.mono ?_
  clear hq
  rintro r w2 ⟨rfl, hra, hbe⟩
  rw [← hbr] at hbe
  obtain ⟨W6, hW6⟩ : ∃ W6, w2.alloc (.cells #[.int .i64 0, .int .i64 0, .int .i64 0, .slice none 0 0, .int .i64 0, .slice none 0 0, .int .i64 0, .slice none 0 0, .int .i64 0, .slice none 0 0, .int .i64 0, .slice none 0 0, .int .i64 0, .string ⟨#[]⟩, .string ⟨#[]⟩, .slice none 0 0, .string ⟨#[]⟩, .int .i64 0, .string ⟨#[]⟩, .int .i64 0, .string ⟨#[]⟩] 30) = W6 := ⟨_, rfl⟩
  have hb6 : Below w2.heap.size w2 W6 := by rw [← hW6]; exact bel_alloc _ _
  have hS6 : Pk.Blk W6 w2.heap.size (docL dc0 zz0) 30 := by rw [← hW6]; exact Pk.Blk.new w2 (docL dc0 zz0) _
  obtain ⟨bd, hbd⟩ : ∃ bd, w2.heap.size = bd := ⟨_, rfl⟩
  have hltr := Pk.Blk.lt hra
  have hbd1 : W1.heap.size ≤ bd := by have := hbe.size; omega
  rw [hbd] at hS6
  have hR : Box (Rd2 W1 W6 br bd 124 l 0 dc0 zz0) := ⟨⟨blk_here (show Pk.Blk w2 _ _ _ from hra) hb6, hS6, DcR.zero _ _, mono_bel hbe hb6 (Nat.le_refl _), by omega, hbd1, by omega, by decide, by decide⟩⟩
  clear hra hbe hb6 hS6 hltr
  have hq := Pk.xnumber_any br l 0 1 W6 hR.out.rat (by decide)
  obtain ⟨X, hX⟩ : ∃ x, Pk.numR 1 l 0 = x := ⟨_, rfl⟩
  rw [hX] at hq
  replace hq := Box.mk hq
  go_wp2_with fail
  refine hq.out.mono ?_
  clear hq
  rintro r wa ⟨rfl, hn⟩
  have hR1 := hR.out.rd hn
  have cA : wa.cell? ⟨bd, 0, none⟩ = some (.int .i64 dc0.k) := hR1.blk.cell 0
  have fA := hR1.free 0
  have hR2 := hR1.k X.1
  obtain ⟨wb, hwb⟩ : ∃ wb, wa.setCell ⟨bd, 0, none⟩ (.int .i64 X.1) = wb := ⟨_, rfl⟩
  rw [hwb] at hR2
  replace hR := Box.mk hR2
  clear hn hR1 hR2
  have hq := Pk.xnumber_any br X.2.1 X.2.2 2 wb hR.out.rat (by decide)
  obtain ⟨Y, hY⟩ : ∃ x, Pk.numR 2 X.2.1 X.2.2 = x := ⟨_, rfl⟩
  rw [hY] at hq
  replace hq := Box.mk hq
  go_wp2_with fail
  refine hq.out.mono ?_
  clear hq
  rintro r wa ⟨rfl, hn⟩
  have hR1 := hR.out.rd hn
  have cA : wa.cell? ⟨bd, 1, none⟩ = some (.int .i64 dc0.v) := hR1.blk.cell 1
  have fA := hR1.free 1
  have hR2 := hR1.v Y.1
  obtain ⟨wb, hwb⟩ : ∃ wb, wa.setCell ⟨bd, 1, none⟩ (.int .i64 Y.1) = wb := ⟨_, rfl⟩
  rw [hwb] at hR2
  replace hR := Box.mk hR2
  clear hn hR1 hR2
  have hq := Pk.xnumber_any br Y.2.1 Y.2.2 8 wb hR.out.rat (by decide)
  obtain ⟨V, hV⟩ : ∃ x, Pk.numR 8 Y.2.1 Y.2.2 = x := ⟨_, rfl⟩
  rw [hV] at hq
  replace hq := Box.mk hq
  go_wp2_with fail
  refine hq.out.mono ?_
  clear hq
  rintro r wa ⟨rfl, hn⟩
  have hR1 := hR.out.rd hn
  have cA : wa.cell? ⟨bd, 2, none⟩ = some (.int .i64 dc0.x) := hR1.blk.cell 2
  have fA := hR1.free 2
  have hR2 := hR1.x V.1
  obtain ⟨wb, hwb⟩ : ∃ wb, wa.setCell ⟨bd, 2, none⟩ (.int .i64 V.1) = wb := ⟨_, rfl⟩
  rw [hwb] at hR2
  replace hR := Box.mk hR2
  clear hn hR1 hR2
  rw [hX] at hk
  have k1 : (X.1 == 1) = false := by rw [hk]; rfl
  have k2 : (X.1 == 2) = true := by rw [hk]; rfl
  have k3 : (X.1 == 3) = false := by rw [hk]; rfl
  have k4 : (X.1 == 4) = false := by rw [hk]; rfl
  have c0 : wb.cell? ⟨bd, 0, none⟩ = some (.int .i64 X.1) := hR.out.blk.cell 0
  obtain ⟨F, hF⟩ : ∃ F, fldR X.1 V.2.1 V.2.2 = F := ⟨_, rfl⟩
  have eD : Box (rdD l 0 = (⟨X.1, Y.1, V.1, F.1⟩, F.2)) := ⟨by rw [← hF, ← hV, ← hY, ← hX]; rfl⟩
  have hok0 := rd_len l 0
  rw [eD.out] at hok0
  replace hok0 := Box.mk hok0
  rw [hk] at hF
  replace hk := Box.mk hk
  have hR : Box (Rd2 W1 wb br bd 124 V.2.1 V.2.2 ⟨X.1, Y.1, V.1, fl0⟩ zz0) := ⟨hR.out⟩
  have hq := Pk.xnumber_any br V.2.1 V.2.2 1 wb hR.out.rat (by decide)
  obtain ⟨n, hn, hn256⟩ := num1 V.2.1 V.2.2
  have hT : listP V.2.1 V.2.2 = repR tgP n (Pk.numR 1 V.2.1 V.2.2).2.1 (Pk.numR 1 V.2.1 V.2.2).2.2 := by
    show ((repR tgP (Pk.numR 1 V.2.1 V.2.2).1.toNat _ _).1, (repR tgP (Pk.numR 1 V.2.1 V.2.2).1.toNat _ _).2) = _
    rw [hn]; rfl
  rw [hn] at hq
  obtain ⟨m, hm⟩ : ∃ m, (Pk.numR 1 V.2.1 V.2.2).2.1 = m := ⟨_, rfl⟩
  obtain ⟨f, hf⟩ : ∃ f, (Pk.numR 1 V.2.1 V.2.2).2.2 = f := ⟨_, rfl⟩
  rw [hm, hf] at hq hT
  have hF2 : F = (fLst (repR tgP n m f).1, (repR tgP n m f).2) := by rw [← hF, ← hT]; rfl
  replace hF2 := Box.mk hF2
  replace hq := Box.mk hq
  obtain ⟨i0, hi0, hz0, hz1, hz2⟩ := info_parts info_tg
  have hH := Box.mk (And.intro hi0 (And.intro hz0 (And.intro hz1 hz2)))
  clear hF hT hn hm hf hi0 hz0 hz1 hz2
  go_wp2_with fail
  refine hq.out.mono ?_
  clear hq
  rintro r wa ⟨rfl, hn⟩
  have hR0 : Box (∃ z, Rd2 W1 wa br bd 124 (repR tgP 0 m f).2.1 (repR tgP 0 m f).2.2 ⟨X.1, Y.1, V.1, { fl0 with ls := (repR tgP 0 m f).1 }⟩ z) := ⟨zz0, hR.out.rd hn⟩
  clear hR hn c0
  go_wp2_with fail
  go_loopw [8, 9] (fun q _ wr => ∃ i : Nat, i ≤ n ∧ q = .int .i64 (i : Int) ∧ Box (∃ z, Rd2 W1 wr br bd 124 (repR tgP i m f).2.1 (repR tgP i m f).2.2 ⟨X.1, Y.1, V.1, { fl0 with ls := (repR tgP i m f).1 }⟩ z)) (fun q _ _ => n - (intOf q).toNat)
  case atStart => exact ⟨0, by omega, rfl, hR0⟩
  case round =>
    clear hR0
    obtain ⟨i, hi, rfl, hA⟩ := hrel
    by_cases hlt : i < n
    · clear eD hok0 hF2
      obtain ⟨z, hR0⟩ := hA.out
      have hsl := repR_len tgP i m f
      obtain ⟨R, hRe⟩ : ∃ R, repR tgP i m f = R := ⟨_, rfl⟩
      have hnx : repR tgP (i + 1) m f = (R.1 ++ [((Pk.numR 1 R.2.1 R.2.2).1, (Pk.numR 2 (Pk.numR 1 R.2.1 R.2.2).2.1 (Pk.numR 1 R.2.1 R.2.2).2.2).1, Pk.btx (Pk.rawR 32 (Pk.numR 2 (Pk.numR 1 R.2.1 R.2.2).2.1 (Pk.numR 1 R.2.1 R.2.2).2.2).2.1 (Pk.numR 2 (Pk.numR 1 R.2.1 R.2.2).2.1 (Pk.numR 1 R.2.1 R.2.2).2.2).2.2).1)],
        (Pk.rawR 32 (Pk.numR 2 (Pk.numR 1 R.2.1 R.2.2).2.1 (Pk.numR 1 R.2.1 R.2.2).2.2).2.1 (Pk.numR 2 (Pk.numR 1 R.2.1 R.2.2).2.1 (Pk.numR 1 R.2.1 R.2.2).2.2).2.2).2) := by rw [← hRe]; rfl
      rw [hRe] at hR0 hsl
      obtain ⟨Wq, hWq⟩ : ∃ W, wr.alloc (.cells #[.int .i64 0, .int .i64 0, .string ⟨#[]⟩] 42) = W := ⟨_, rfl⟩
      obtain ⟨bq, hbq⟩ : ∃ b, wr.heap.size = b := ⟨_, rfl⟩
      have hQ : Box (Pk.Blk Wq bq [.int .i64 0, .int .i64 0, .string ⟨#[]⟩] 42) := ⟨by rw [← hWq, ← hbq]; exact Pk.Blk.new wr _ _⟩
      have hqr : Box (br ≠ bq) := ⟨by have := Pk.Blk.lt hR0.rat; omega⟩
      have hqd : Box (bd ≠ bq) := ⟨by have := hR0.blk.lt; omega⟩
      have hq0 : Box (W1.heap.size ≤ bq) := ⟨by rw [← hbq]; exact hR0.bel.size⟩
      have hal : Box (∀ k, (Value.slice z.al.1 R.1.length z.al.2).ownBlock = some k → k ≠ bq) := ⟨fun k hk => by have := hR0.rows.pl.row.lt k hk; omega⟩
      have hR := Box.mk (hR0.below (by rw [← hWq]; exact bel_alloc _ _ : Below wr.heap.size wr Wq))
      have hii : (i : Int) < (n : Int) := by omega
      clear hA hR0 hRe
      have hq := Pk.xnumber_any br R.2.1 R.2.2 1 Wq hR.out.rat (by decide)
      obtain ⟨P, hP⟩ : ∃ x, Pk.numR 1 R.2.1 R.2.2 = x := ⟨_, rfl⟩
      rw [hP] at hq hnx
      replace hq := Box.mk hq
      go_wp2_with fail
      refine hq.out.mono ?_
      clear hq hP
      rintro r wa ⟨rfl, hn⟩
      have hR1 := hR.out.rd hn
      have hQ1 := hn.chg.blk hQ.out (fun e => hqr.out e.symm)
      have cA : wa.cell? ⟨bq, 0, none⟩ = some (.int .i64 0) := hQ1.cell 0
      have fA := hQ1.free 0
      have hR2 := hR1.other hqr.out hqd.out hq0.out hQ1 hal.out 0 (.int .i64 P.1)
      have hQ2 := hQ1.setCell 0 (.int .i64 P.1)
      obtain ⟨wb, hwb⟩ : ∃ wb, wa.setCell ⟨bq, 0, none⟩ (.int .i64 P.1) = wb := ⟨_, rfl⟩
      rw [hwb] at hR2 hQ2
      replace hR := Box.mk hR2
      have hQ : Box (Pk.Blk wb bq [.int .i64 P.1, .int .i64 0, .string ⟨#[]⟩] 42) := ⟨hQ2⟩
      clear hn hR1 hR2 hQ1 hQ2
      have hq := Pk.xnumber_any br P.2.1 P.2.2 2 wb hR.out.rat (by decide)
      obtain ⟨Q, hQ⟩ : ∃ x, Pk.numR 2 P.2.1 P.2.2 = x := ⟨_, rfl⟩
      rw [hQ] at hq hnx
      replace hq := Box.mk hq
      go_wp2_with fail
      refine hq.out.mono ?_
      clear hq hQ
      rintro r wa ⟨rfl, hn⟩
      have hR1 := hR.out.rd hn
      have hQ1 := hn.chg.blk hQ.out (fun e => hqr.out e.symm)
      have cA : wa.cell? ⟨bq, 1, none⟩ = some (.int .i64 0) := hQ1.cell 1
      have fA := hQ1.free 1
      have hR2 := hR1.other hqr.out hqd.out hq0.out hQ1 hal.out 1 (.int .i64 Q.1)
      have hQ2 := hQ1.setCell 1 (.int .i64 Q.1)
      obtain ⟨wb, hwb⟩ : ∃ wb, wa.setCell ⟨bq, 1, none⟩ (.int .i64 Q.1) = wb := ⟨_, rfl⟩
      rw [hwb] at hR2 hQ2
      replace hR := Box.mk hR2
      have hQ : Box (Pk.Blk wb bq [.int .i64 P.1, .int .i64 Q.1, .string ⟨#[]⟩] 42) := ⟨hQ2⟩
      clear hn hR1 hR2 hQ1 hQ2
      have hq := Pk.xraw_any br Q.2.1 Q.2.2 32 wb hR.out.rat
      obtain ⟨U, hU⟩ : ∃ x, Pk.rawR 32 Q.2.1 Q.2.2 = x := ⟨_, rfl⟩
      rw [hU] at hq hnx
      replace hq := Box.mk hq
      go_wp2_with fail
      refine hq.out.mono ?_
      clear hq hU
      rintro r wa ⟨rfl, hn⟩
      have hR1 := hR.out.rd hn
      have hQ1 := hn.chg.blk hQ.out (fun e => hqr.out e.symm)
      have cA : wa.cell? ⟨bq, 2, none⟩ = some (.string ⟨#[]⟩) := hQ1.cell 2
      have fA := hQ1.free 2
      have hR2 := hR1.other hqr.out hqd.out hq0.out hQ1 hal.out 2 (.string (Pk.btx U.1))
      have hQ2 := hQ1.setCell 2 (.string (Pk.btx U.1))
      obtain ⟨wb, hwb⟩ : ∃ wb, wa.setCell ⟨bq, 2, none⟩ (.string (Pk.btx U.1)) = wb := ⟨_, rfl⟩
      rw [hwb] at hR2 hQ2
      replace hR := Box.mk hR2
      have hQ : Box (Pk.Blk wb bq [.int .i64 P.1, .int .i64 Q.1, .string (Pk.btx U.1)] 42) := ⟨hQ2⟩
      clear hn hR1 hR2 hQ1 hQ2
      obtain ⟨x, hx⟩ : ∃ x, Pk.btx U.1 = x := ⟨_, rfl⟩
      rw [hx] at hQ hnx
      have q0 := hQ.out.cell 0
      have q1 := hQ.out.cell 1
      have q2 := hQ.out.cell 2
      simp only [List.getElem?_cons_zero, List.getElem?_cons_succ] at q0 q1 q2
      have c15 : wb.cell? ⟨bd, 15, none⟩ = some (.slice z.al.1 R.1.length z.al.2) := hR.out.blk.cell 15
      rw [hsl] at c15
      obtain ⟨wd, hwd⟩ : ∃ wd, wb.alloc (.cells #[.int .i64 P.1, .int .i64 Q.1, .string x] 42) = wd := ⟨_, rfl⟩
      have hRd := Box.mk (hR.out.below (by rw [← hwd]; exact bel_alloc _ _ : Below wb.heap.size wb wd))
      have hnxB := Box.mk hnx
      have hslB := Box.mk hsl
      rw [hx] at hwb
      clear hR hnx hsl hQ
      go_wp2_with (at_builtin; refine Pk.wpList_pushR rfl (.tmp 62) (.tmp 64) 26 42 rfl i0 (.agg #[.int .i64 0, .int .i64 0, .string ByteArray.empty]) 3 32 Tryz.underlying26 hH.out.1 hH.out.2.1 hH.out.2.2.1 hH.out.2.2.2 rfl (by decide) _ i (tgL R.1) rfl (by have h := hRd.out.rows.pl.row; rw [hslB.out] at h; (try rw [hwd]); exact h) ⟨wb.heap.size, 0, none⟩ 1 1 [.int .i64 P.1, .int .i64 Q.1, .string x] rfl rfl (by (try rw [← hwd]); exact row_new _ _ _) (by simp [Value.oneCell']) (by unfold maxLen; omega) (by omega) ?_)
      intro v6 w6 hp6
      obtain ⟨a6, c6, rfl⟩ := hp6.row.shape
      have hp7 : Pk.PushedRow wd 42 3 (.slice z.al.1 R.1.length z.al.2) (R.1.length + 1) (tgL R.1 ++ [.int .i64 P.1, .int .i64 Q.1, .string x]) (.slice a6 (i + 1) c6) w6 := by rw [hslB.out]; exact hp6
      obtain ⟨hst, hE⟩ := Rd2.push hRd.out (x := (P.1, Q.1, x)) (by rw [List.length_append, hslB.out]; rfl) hp7
      have cE : w6.cell? ⟨bd, 15, none⟩ = some _ := (hst 0).1.cell 15
      have fE := (hst 15).2
      obtain ⟨we, hwe⟩ : ∃ we, w6.setCell ⟨bd, 15, none⟩ (.slice a6 (i + 1) c6) = we := ⟨_, rfl⟩
      rw [hwe] at hE
      have hE2 : Box (∃ z, Rd2 W1 we br bd 124 (repR tgP (i + 1) m f).2.1 (repR tgP (i + 1) m f).2.2 ⟨X.1, Y.1, V.1, { fl0 with ls := (repR tgP (i + 1) m f).1 }⟩ z) := ⟨_, by rw [hnxB.out]; exact hE⟩
      clear hE hst hp6 hp7 hRd
      go_wp2_with fail
      exact ⟨⟨i + 1, by omega, by go_num, hE2⟩, by simp [intOf]; omega⟩
    · obtain rfl : i = n := by omega
      obtain ⟨z, hR0⟩ := hA.out
      have hR : Box (Rd2 W1 wr br bd 124 F.2.1 F.2.2 ⟨X.1, Y.1, V.1, F.1⟩ z) := ⟨by rw [hF2.out]; exact hR0⟩
      clear hA hR0 hF2 hH
      obtain ⟨D, hDD⟩ : ∃ D, (⟨X.1, Y.1, V.1, F.1⟩ : Dc) = D := ⟨_, rfl⟩
      rw [hDD] at hR eD hok0
      have hok := hok0.out
      clear hDD hok0
      have hq := Box.mk (Pk.xend_any br F.2.1 F.2.2 _ hR.out.rat)
      obtain ⟨E, hE⟩ : ∃ E, Pk.endE F.2.1 F.2.2 = E := ⟨_, rfl⟩
      rw [hE] at hq
      go_wp2_with fail
      refine hq.out.mono ?_
      clear hq
      rintro r w9 ⟨rfl, hn⟩
      replace hR := Box.mk (hR.out.rd hn)
      clear hn
      have hbe := Box.mk hR.out.bel
      have hS2 := Box.mk (blk_here hS1.out ((hbe.out)))
      by_cases hE0 : E = 0
      · subst hE0
        obtain ⟨hl1, hl2⟩ := hLB.out w9 (mono_bel hB1.out hbe.out (Nat.le_refl _))
        have hq := Box.mk (mrcheck_any D z B w9 hl1 hl2 hR.out.rows.at_ hok)
        have hD := Box.mk hR.out.blk
        cases hc : chkD D with
        | true =>
          have eC : chkDE D = 0 := by unfold chkDE; rw [hc]; rfl
          rw [eC] at hq
          have hdec : Box (decM l = (D, 0)) := ⟨by unfold decM; rw [eD.out, if_pos ⟨hE, hc⟩]⟩
          clear eC hc hE eD hok hl1 hl2
          go_wp2_with (refine wpList_loadG (by rfl) 30 (.tmp 5) rfl bd 0 rfl (docL D z) _ (blk_range hD.out) Tryz.underlying30 rfl (doc_size _ _) ?_)
          refine hq.out.mono ?_
          clear hq
          rintro r wc ⟨rfl, hb⟩
          replace hbe := Box.mk (mono_bel hbe.out hb (Nat.le_refl _))
          have hrw := Box.mk (hR.out.rows.below hb)
          replace hD := Box.mk (blk_here hD.out hb)
          replace hS2 := Box.mk (blk_here hS2.out hb)
          clear hb hR
          go_wp2_with (first | (refine wpList_loadG (by rfl) 30 (.tmp 5) rfl bd 0 rfl (docL D z) _ (blk_range hD.out) Tryz.underlying30 rfl (doc_size _ _) ?_) | (refine wpList_store_doc rfl (.tmp 2) (.tmp 104) rfl b2 D z rfl rfl hS2.out rfl ?_; intro wz hwz; replace hwz := Box.mk hwz))
          obtain ⟨z1, z2, z3⟩ := dec_end hb2 hB1.out hbe.out hS2.out hrw.out hwz.out
          have zl := load_doc z1
          exact bodyPost_ret (v := .tuple #[docV D z, .int .i64 0]) (results_doc Tryz.results13 rfl zl rfl) rfl ⟨⟨z, by rw [hdec.out], by rw [hdec.out]; exact z2⟩, z3⟩
        | false =>
          have eC : chkDE D = 1 := by unfold chkDE; rw [hc]; rfl
          rw [eC] at hq
          have hdec : Box (decM l = (dc0, 3)) := ⟨by unfold decM; rw [eD.out, if_neg (by rw [hc]; simp)]⟩
          clear eC hc hE eD hok hl1 hl2
          go_wp2_with (refine wpList_loadG (by rfl) 30 (.tmp 5) rfl bd 0 rfl (docL D z) _ (blk_range hD.out) Tryz.underlying30 rfl (doc_size _ _) ?_)
          refine hq.out.mono ?_
          clear hq
          rintro r wc ⟨rfl, hb⟩
          replace hbe := Box.mk (mono_bel hbe.out hb (Nat.le_refl _))
          have hrw := Box.mk (DcR.zero W1.heap.size wc)
          replace hS2 := Box.mk (blk_here hS2.out hb)
          clear hb hR
          go_wp2_with (first | (refine wpList_buildD rfl 30 [] rfl [] rfl (docL dc0 zz0) built_zero ?_) | (refine wpList_store_doc rfl (.tmp 2) (.tmp 103) rfl b2 dc0 zz0 rfl rfl hS2.out rfl ?_; intro wz hwz; replace hwz := Box.mk hwz))
          obtain ⟨z1, z2, z3⟩ := dec_end hb2 hB1.out hbe.out hS2.out hrw.out hwz.out
          have zl := load_doc z1
          exact bodyPost_ret (v := .tuple #[docV dc0 zz0, .int .i64 3]) (results_doc Tryz.results13 rfl zl rfl) rfl ⟨⟨zz0, by rw [hdec.out], by rw [hdec.out]; exact z2⟩, z3⟩
      · have hEd : (E != 0) = true := by simpa using hE0
        have hdec : Box (decM l = (dc0, 3)) := ⟨by unfold decM; rw [eD.out, if_neg (fun h => hE0 (hE.symm.trans h.1))]⟩
        have hrw := Box.mk (DcR.zero W1.heap.size w9)
        clear hE hE0 hR eD hok
        go_wp2_with (first | (refine wpList_buildD rfl 30 [] rfl [] rfl (docL dc0 zz0) built_zero ?_) | (refine wpList_store_doc rfl (.tmp 2) (.tmp 103) rfl b2 dc0 zz0 rfl rfl hS2.out rfl ?_; intro wz hwz; replace hwz := Box.mk hwz))
        obtain ⟨z1, z2, z3⟩ := dec_end hb2 hB1.out hbe.out hS2.out hrw.out hwz.out
        have zl := load_doc z1
        exact bodyPost_ret (v := .tuple #[docV dc0 zz0, .int .i64 3]) (results_doc Tryz.results13 rfl zl rfl) rfl ⟨⟨zz0, by rw [hdec.out], by rw [hdec.out]; exact z2⟩, z3⟩
end Go.Proofs.YtiblkfkeifnpaaaGreatDoor.Me
