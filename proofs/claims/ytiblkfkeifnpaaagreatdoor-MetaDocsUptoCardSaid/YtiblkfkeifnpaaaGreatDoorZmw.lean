/- meta: Decode of the document: roots. -/
import Derived.Test.YtiblkfkeifnpaaaGreatDoorZmj
set_option linter.all false
namespace Go.Proofs.YtiblkfkeifnpaaaGreatDoor.Me
open Go Go.RowKit Go.Proofs.YtiblkfkeifnpaaaGreatDoor Go.Proofs.YtiblkfkeifnpaaaGreatDoor.Nt
set_option maxHeartbeats 3200000 in
set_option maxRecDepth 100000 in
theorem rdec_1 (s : ByteArray) (B : Nat) (w : World) (hL : NL B w) (hB : B ≤ w.heap.size) (hk : (Pk.numR 1 s.data.toList 0).1 = 1) :
    Calls Tryz.prog 13 #[.string s] w fun e w' => DecS w.heap.size s.data.toList e w' ∧ Below w.heap.size w w' := by
  obtain ⟨W1, hW1, hB1, hS1⟩ := doc_new w dc0 zz0 30
  have hW1 : w.alloc (.cells #[.int .i64 0, .int .i64 0, .int .i64 0, .slice none 0 0, .int .i64 0, .slice none 0 0, .int .i64 0, .slice none 0 0, .int .i64 0, .slice none 0 0, .int .i64 0, .slice none 0 0, .int .i64 0, .string ⟨#[]⟩, .string ⟨#[]⟩, .slice none 0 0, .string ⟨#[]⟩, .int .i64 0, .string ⟨#[]⟩, .int .i64 0, .string ⟨#[]⟩] 30) = W1 := hW1
  have hq := Pk.xread_new s W1
  obtain ⟨l, hl⟩ : ∃ l, s.data.toList = l := ⟨_, rfl⟩
  rw [hl] at hq hk ⊢
  have hLB := Box.mk fun (w' : World) (hb : Below w.heap.size w w') => (⟨hL.here hB hb, by have := hb.size; omega⟩ : NL B w' ∧ B ≤ w'.heap.size)
  have hlt := hS1.lt
  obtain ⟨b2, hb2⟩ : ∃ b2, w.heap.size = b2 := ⟨_, rfl⟩
  obtain ⟨br, hbr⟩ : ∃ br, W1.heap.size = br := ⟨_, rfl⟩
  rw [hb2] at hS1
  have hS1 := Box.mk hS1
  rw [hbr] at hq
  replace hq := Box.mk hq
  clear hl hL hB
  go_enter Tryz.func13, Tryz.ntmps13
  go_wp2_with fail
  refine hq.out.mono ?_
  clear hq
  rintro r w2 ⟨rfl, hra, hbe⟩
  rw [← hbr] at hbe
  obtain ⟨W6, hW6⟩ : ∃ W6, w2.alloc (.cells #[.int .i64 0, .int .i64 0, .int .i64 0, .slice none 0 0, .int .i64 0, .slice none 0 0, .int .i64 0, .slice none 0 0, .int .i64 0, .slice none 0 0, .int .i64 0, .slice none 0 0, .int .i64 0, .string ⟨#[]⟩, .string ⟨#[]⟩, .slice none 0 0, .string ⟨#[]⟩, .int .i64 0, .string ⟨#[]⟩, .int .i64 0, .string ⟨#[]⟩] 30) = W6 := ⟨_, rfl⟩
  have hb6 : Below w2.heap.size w2 W6 := by rw [← hW6]; exact bel_alloc _ _
  have hS6 : Pk.Blk W6 w2.heap.size (docL dc0 zz0) 30 := by rw [← hW6]; exact Pk.Blk.new w2 (docL dc0 zz0) _
  obtain ⟨bd, hbd⟩ : ∃ bd, w2.heap.size = bd := ⟨_, rfl⟩
  have hltr := Pk.Blk.lt hra
  have hbd1 : W1.heap.size ≤ bd := by have := hbe.size; omega
  rw [hbd] at hS6
  have hR : Box (Rd2 W1 W6 br bd 124 l 0 dc0 zz0) := ⟨⟨blk_here (show Pk.Blk w2 _ _ _ from hra) hb6, hS6, DcR.zero _ _, mono_bel hbe hb6 (Nat.le_refl _), by omega, hbd1, by omega, by decide, by decide⟩⟩
  clear hra hbe hb6 hS6 hltr
  have hq := Pk.xnumber_any br l 0 1 W6 hR.out.rat (by decide)
  obtain ⟨X, hX⟩ : ∃ x, Pk.numR 1 l 0 = x := ⟨_, rfl⟩
  rw [hX] at hq
  replace hq := Box.mk hq
  go_wp2_with fail
  refine hq.out.mono ?_
  clear hq
  rintro r wa ⟨rfl, hn⟩
  have hR1 := hR.out.rd hn
  have cA : wa.cell? ⟨bd, 0, none⟩ = some (.int .i64 dc0.k) := hR1.blk.cell 0
  have fA := hR1.free 0
  have hR2 := hR1.k X.1
  obtain ⟨wb, hwb⟩ : ∃ wb, wa.setCell ⟨bd, 0, none⟩ (.int .i64 X.1) = wb := ⟨_, rfl⟩
  rw [hwb] at hR2
  replace hR := Box.mk hR2
  clear hn hR1 hR2
  have hq := Pk.xnumber_any br X.2.1 X.2.2 2 wb hR.out.rat (by decide)
  obtain ⟨Y, hY⟩ : ∃ x, Pk.numR 2 X.2.1 X.2.2 = x := ⟨_, rfl⟩
  rw [hY] at hq
  replace hq := Box.mk hq
  go_wp2_with fail
  refine hq.out.mono ?_
  clear hq
  rintro r wa ⟨rfl, hn⟩
  have hR1 := hR.out.rd hn
  have cA : wa.cell? ⟨bd, 1, none⟩ = some (.int .i64 dc0.v) := hR1.blk.cell 1
  have fA := hR1.free 1
  have hR2 := hR1.v Y.1
  obtain ⟨wb, hwb⟩ : ∃ wb, wa.setCell ⟨bd, 1, none⟩ (.int .i64 Y.1) = wb := ⟨_, rfl⟩
  rw [hwb] at hR2
  replace hR := Box.mk hR2
  clear hn hR1 hR2
  have hq := Pk.xnumber_any br Y.2.1 Y.2.2 8 wb hR.out.rat (by decide)
  obtain ⟨V, hV⟩ : ∃ x, Pk.numR 8 Y.2.1 Y.2.2 = x := ⟨_, rfl⟩
  rw [hV] at hq
  replace hq := Box.mk hq
  go_wp2_with fail
  refine hq.out.mono ?_
  clear hq
  rintro r wa ⟨rfl, hn⟩
  have hR1 := hR.out.rd hn
  have cA : wa.cell? ⟨bd, 2, none⟩ = some (.int .i64 dc0.x) := hR1.blk.cell 2
  have fA := hR1.free 2
  have hR2 := hR1.x V.1
  obtain ⟨wb, hwb⟩ : ∃ wb, wa.setCell ⟨bd, 2, none⟩ (.int .i64 V.1) = wb := ⟨_, rfl⟩
  rw [hwb] at hR2
  replace hR := Box.mk hR2
  clear hn hR1 hR2
  rw [hX] at hk
  have k1 : (X.1 == 1) = true := by rw [hk]; rfl
  have k2 : (X.1 == 2) = false := by rw [hk]; rfl
  have k3 : (X.1 == 3) = false := by rw [hk]; rfl
  have k4 : (X.1 == 4) = false := by rw [hk]; rfl
  have c0 : wb.cell? ⟨bd, 0, none⟩ = some (.int .i64 X.1) := hR.out.blk.cell 0
  obtain ⟨F, hF⟩ : ∃ F, fldR X.1 V.2.1 V.2.2 = F := ⟨_, rfl⟩
  have eD : Box (rdD l 0 = (⟨X.1, Y.1, V.1, F.1⟩, F.2)) := ⟨by rw [← hF, ← hV, ← hY, ← hX]; rfl⟩
  have hok0 := rd_len l 0
  rw [eD.out] at hok0
  replace hok0 := Box.mk hok0
  rw [hk] at hF
  replace hk := Box.mk hk
  obtain ⟨m, hm⟩ : ∃ m, V.2.1 = m := ⟨_, rfl⟩
  obtain ⟨f, hf⟩ : ∃ f, V.2.2 = f := ⟨_, rfl⟩
  have hR0 : Box (∃ z, Rd2 W1 wb br bd 124 (rulI m f 0).1 (rulI m f 0).2 (rulF ⟨X.1, Y.1, V.1, fl0⟩ m f 0) z) := ⟨zz0, by rw [← hm, ← hf]; exact hR.out⟩
  rw [hm, hf] at hF
  clear hR
  go_wp2_with fail
  clear c0
  go_loopw [6] (fun q wr => ∃ i : Nat, i ≤ 4 ∧ q = .int .i64 (i : Int) ∧ Box (∃ z, Rd2 W1 wr br bd 124 (rulI m f i).1 (rulI m f i).2 (rulF ⟨X.1, Y.1, V.1, fl0⟩ m f i) z)) (fun q _ => 4 - (intOf q).toNat)
  case atStart => exact ⟨0, by omega, rfl, hR0⟩
  case round =>
    clear hR0
    obtain ⟨i, hi, rfl, hA⟩ := hrel
    rcases (show i = 0 ∨ i = 1 ∨ i = 2 ∨ i = 3 ∨ i = 4 by omega) with rfl | rfl | rfl | rfl | rfl
    · clear hi eD hok0 hF
      obtain ⟨z, hR0⟩ := hA.out
      have hR := Box.mk hR0
      obtain ⟨T, hT⟩ : ∃ T, takeA (rulI m f 0).1 (rulI m f 0).2 = T := ⟨_, rfl⟩
      have hq := xtake_any br (rulI m f 0).1 (rulI m f 0).2 wr hR.out.rat
      rw [hT] at hq
      replace hq := Box.mk hq
      have hnx : Box (rulI m f 1 = (T.2.2.1, errT T)) := ⟨by rw [← hT]; rfl⟩
      have hnS : Box (rulS m f 0 = (idsT T, needT T)) := ⟨by rw [← hT]; rfl⟩
      clear hA hR0 hT
      go_wp2_with fail
      refine hq.out.mono ?_
      clear hq
      rintro r wa ⟨⟨v, rfl, hv⟩, hat, hch⟩
      obtain ⟨a, c, rfl⟩ := hv.shape
      have hS := hR.out.step hat hch
      have hv0 := hv.base hR.out.bel.size
      have hE := hS.r0 hv0 (needT T)
      have cA : wa.cell? ⟨bd, 3, none⟩ = some _ := hS.blk.cell 3
      have cB : wa.cell? ⟨bd, 4, none⟩ = some _ := hS.blk.cell 4
      have fA := hS.free 3
      have fB := hS.free 4
      obtain ⟨we, hwe⟩ : ∃ we, (wa.setCell ⟨bd, 3, none⟩ (.slice a (idsT T).length c)).setCell ⟨bd, 4, none⟩ (.int .i64 (needT T)) = we := ⟨_, rfl⟩
      rw [hwe] at hE
      have hE2 : Box (∃ z, Rd2 W1 we br bd 124 (rulI m f 1).1 (rulI m f 1).2 (rulF ⟨X.1, Y.1, V.1, fl0⟩ m f 1) z) := ⟨_, by rw [hnx.out]; simpa [rulF, hnS.out] using hE⟩
      clear hE hS hv hv0 hat hch hR
      go_wp2_with fail
      exact ⟨⟨1, by omega, rfl, hE2⟩, by simp [intOf]⟩
    · clear hi eD hok0 hF
      obtain ⟨z, hR0⟩ := hA.out
      have hR := Box.mk hR0
      obtain ⟨T, hT⟩ : ∃ T, takeA (rulI m f 1).1 (rulI m f 1).2 = T := ⟨_, rfl⟩
      have hq := xtake_any br (rulI m f 1).1 (rulI m f 1).2 wr hR.out.rat
      rw [hT] at hq
      replace hq := Box.mk hq
      have hnx : Box (rulI m f 2 = (T.2.2.1, errT T)) := ⟨by rw [← hT]; rfl⟩
      have hnS : Box (rulS m f 1 = (idsT T, needT T)) := ⟨by rw [← hT]; rfl⟩
      clear hA hR0 hT
      go_wp2_with fail
      refine hq.out.mono ?_
      clear hq
      rintro r wa ⟨⟨v, rfl, hv⟩, hat, hch⟩
      obtain ⟨a, c, rfl⟩ := hv.shape
      have hS := hR.out.step hat hch
      have hv0 := hv.base hR.out.bel.size
      have hE := hS.r1 hv0 (needT T)
      have cA : wa.cell? ⟨bd, 5, none⟩ = some _ := hS.blk.cell 5
      have cB : wa.cell? ⟨bd, 6, none⟩ = some _ := hS.blk.cell 6
      have fA := hS.free 5
      have fB := hS.free 6
      obtain ⟨we, hwe⟩ : ∃ we, (wa.setCell ⟨bd, 5, none⟩ (.slice a (idsT T).length c)).setCell ⟨bd, 6, none⟩ (.int .i64 (needT T)) = we := ⟨_, rfl⟩
      rw [hwe] at hE
      have hE2 : Box (∃ z, Rd2 W1 we br bd 124 (rulI m f 2).1 (rulI m f 2).2 (rulF ⟨X.1, Y.1, V.1, fl0⟩ m f 2) z) := ⟨_, by rw [hnx.out]; simpa [rulF, hnS.out] using hE⟩
      clear hE hS hv hv0 hat hch hR
      go_wp2_with fail
      exact ⟨⟨2, by omega, rfl, hE2⟩, by simp [intOf]⟩
    · clear hi eD hok0 hF
      obtain ⟨z, hR0⟩ := hA.out
      have hR := Box.mk hR0
      obtain ⟨T, hT⟩ : ∃ T, takeA (rulI m f 2).1 (rulI m f 2).2 = T := ⟨_, rfl⟩
      have hq := xtake_any br (rulI m f 2).1 (rulI m f 2).2 wr hR.out.rat
      rw [hT] at hq
      replace hq := Box.mk hq
      have hnx : Box (rulI m f 3 = (T.2.2.1, errT T)) := ⟨by rw [← hT]; rfl⟩
      have hnS : Box (rulS m f 2 = (idsT T, needT T)) := ⟨by rw [← hT]; rfl⟩
      clear hA hR0 hT
      go_wp2_with fail
      refine hq.out.mono ?_
      clear hq
      rintro r wa ⟨⟨v, rfl, hv⟩, hat, hch⟩
      obtain ⟨a, c, rfl⟩ := hv.shape
      have hS := hR.out.step hat hch
      have hv0 := hv.base hR.out.bel.size
      have hE := hS.r2 hv0 (needT T)
      have cA : wa.cell? ⟨bd, 7, none⟩ = some _ := hS.blk.cell 7
      have cB : wa.cell? ⟨bd, 8, none⟩ = some _ := hS.blk.cell 8
      have fA := hS.free 7
      have fB := hS.free 8
      obtain ⟨we, hwe⟩ : ∃ we, (wa.setCell ⟨bd, 7, none⟩ (.slice a (idsT T).length c)).setCell ⟨bd, 8, none⟩ (.int .i64 (needT T)) = we := ⟨_, rfl⟩
      rw [hwe] at hE
      have hE2 : Box (∃ z, Rd2 W1 we br bd 124 (rulI m f 3).1 (rulI m f 3).2 (rulF ⟨X.1, Y.1, V.1, fl0⟩ m f 3) z) := ⟨_, by rw [hnx.out]; simpa [rulF, hnS.out] using hE⟩
      clear hE hS hv hv0 hat hch hR
      go_wp2_with fail
      exact ⟨⟨3, by omega, rfl, hE2⟩, by simp [intOf]⟩
    · clear hi eD hok0 hF
      obtain ⟨z, hR0⟩ := hA.out
      have hR := Box.mk hR0
      obtain ⟨T, hT⟩ : ∃ T, takeA (rulI m f 3).1 (rulI m f 3).2 = T := ⟨_, rfl⟩
      have hq := xtake_any br (rulI m f 3).1 (rulI m f 3).2 wr hR.out.rat
      rw [hT] at hq
      replace hq := Box.mk hq
      have hnx : Box (rulI m f 4 = (T.2.2.1, errT T)) := ⟨by rw [← hT]; rfl⟩
      have hnS : Box (rulS m f 3 = (idsT T, needT T)) := ⟨by rw [← hT]; rfl⟩
      clear hA hR0 hT
      go_wp2_with fail
      refine hq.out.mono ?_
      clear hq
      rintro r wa ⟨⟨v, rfl, hv⟩, hat, hch⟩
      obtain ⟨a, c, rfl⟩ := hv.shape
      have hS := hR.out.step hat hch
      have hv0 := hv.base hR.out.bel.size
      have hE := hS.r3 hv0 (needT T)
      have cA : wa.cell? ⟨bd, 9, none⟩ = some _ := hS.blk.cell 9
      have cB : wa.cell? ⟨bd, 10, none⟩ = some _ := hS.blk.cell 10
      have fA := hS.free 9
      have fB := hS.free 10
      obtain ⟨we, hwe⟩ : ∃ we, (wa.setCell ⟨bd, 9, none⟩ (.slice a (idsT T).length c)).setCell ⟨bd, 10, none⟩ (.int .i64 (needT T)) = we := ⟨_, rfl⟩
      rw [hwe] at hE
      have hE2 : Box (∃ z, Rd2 W1 we br bd 124 (rulI m f 4).1 (rulI m f 4).2 (rulF ⟨X.1, Y.1, V.1, fl0⟩ m f 4) z) := ⟨_, by rw [hnx.out]; simpa [rulF, hnS.out] using hE⟩
      clear hE hS hv hv0 hat hch hR
      go_wp2_with fail
      exact ⟨⟨4, by omega, rfl, hE2⟩, by simp [intOf]⟩
    · clear hi
      obtain ⟨z, hR0⟩ := hA.out
      have hR := Box.mk hR0
      obtain ⟨T, hT⟩ : ∃ T, takeA (rulI m f 4).1 (rulI m f 4).2 = T := ⟨_, rfl⟩
      have hq := xtake_any br (rulI m f 4).1 (rulI m f 4).2 wr hR.out.rat
      rw [hT] at hq
      replace hq := Box.mk hq
      have eT : takeP (rulI m f 4).1 (rulI m f 4).2 = ((idsT T, needT T), T.2.2.1, errT T) := by rw [← hT]; rfl
      have eR : rulP m f = ((rulS m f 0, rulS m f 1, rulS m f 2, rulS m f 3, (takeP (rulI m f 4).1 (rulI m f 4).2).1, (hashR (takeP (rulI m f 4).1 (rulI m f 4).2).2.1 (takeP (rulI m f 4).1 (rulI m f 4).2).2.2).1, (textsR 64 (hashR (takeP (rulI m f 4).1 (rulI m f 4).2).2.1 (takeP (rulI m f 4).1 (rulI m f 4).2).2.2).2.1 (hashR (takeP (rulI m f 4).1 (rulI m f 4).2).2.1 (takeP (rulI m f 4).1 (rulI m f 4).2).2.2).2.2).1), (textsR 64 (hashR (takeP (rulI m f 4).1 (rulI m f 4).2).2.1 (takeP (rulI m f 4).1 (rulI m f 4).2).2.2).2.1 (hashR (takeP (rulI m f 4).1 (rulI m f 4).2).2.1 (takeP (rulI m f 4).1 (rulI m f 4).2).2.2).2.2).2) := rfl
      rw [eT] at eR
      replace eR := Box.mk eR
      clear hA hR0 hT eT
      go_wp2_with fail
      refine hq.out.mono ?_
      clear hq
      rintro r wb ⟨⟨v, rfl, hv⟩, hat, hch⟩
      obtain ⟨a, c, rfl⟩ := hv.shape
      have hS := hR.out.step hat hch
      have hv0 := hv.base hR.out.bel.size
      have hE := hS.wt hv0 (needT T)
      have cA : wb.cell? ⟨bd, 11, none⟩ = some _ := hS.blk.cell 11
      have cB : wb.cell? ⟨bd, 12, none⟩ = some _ := hS.blk.cell 12
      have fA := hS.free 11
      have fB := hS.free 12
      obtain ⟨we, hwe⟩ : ∃ we, (wb.setCell ⟨bd, 11, none⟩ (.slice a (idsT T).length c)).setCell ⟨bd, 12, none⟩ (.int .i64 (needT T)) = we := ⟨_, rfl⟩
      rw [hwe] at hE
      replace hR := Box.mk hE
      obtain ⟨D5, hD5⟩ : ∃ D, ({ rulF ⟨X.1, Y.1, V.1, fl0⟩ m f 4 with f := { (rulF ⟨X.1, Y.1, V.1, fl0⟩ m f 4).f with wt := (idsT T, needT T) } } : Dc) = D := ⟨_, rfl⟩
      rw [hD5] at hR
      clear hv hat hch hS hv0 hE
      have hq := Pk.xraw_any br T.2.2.1 (errT T) 32 we hR.out.rat
      obtain ⟨P, hP⟩ : ∃ x, Pk.rawR 32 T.2.2.1 (errT T) = x := ⟨_, rfl⟩
      rw [hP] at hq
      replace hq := Box.mk hq
      go_wp2_with fail
      refine hq.out.mono ?_
      clear hq
      rintro r wa ⟨rfl, hn⟩
      have hR1 := hR.out.rd hn
      have cA : wa.cell? ⟨bd, 13, none⟩ = some (.string D5.f.lg) := hR1.blk.cell 13
      have fA := hR1.free 13
      have hR2 := hR1.lg (Pk.btx P.1)
      obtain ⟨wb, hwb⟩ : ∃ wb, wa.setCell ⟨bd, 13, none⟩ (.string (Pk.btx P.1)) = wb := ⟨_, rfl⟩
      rw [hwb] at hR2
      replace hR := Box.mk hR2
      clear hn hR1 hR2
      have hq := Pk.xtext_any br P.2.1 P.2.2 64 wb hR.out.rat
      obtain ⟨Q, hQ⟩ : ∃ x, Pk.textR 64 P.2.1 P.2.2 = x := ⟨_, rfl⟩
      rw [hQ] at hq
      replace hq := Box.mk hq
      go_wp2_with fail
      refine hq.out.mono ?_
      clear hq
      rintro r wa ⟨rfl, hn⟩
      have hR1 := hR.out.rd hn
      have cA : wa.cell? ⟨bd, 14, none⟩ = some (.string D5.f.og) := hR1.blk.cell 14
      have fA := hR1.free 14
      have hR2 := hR1.og (Pk.btx Q.1)
      obtain ⟨wb, hwb⟩ : ∃ wb, wa.setCell ⟨bd, 14, none⟩ (.string (Pk.btx Q.1)) = wb := ⟨_, rfl⟩
      rw [hwb] at hR2
      replace hR := Box.mk hR2
      clear hn hR1 hR2
      obtain ⟨z', hR'⟩ : ∃ z, Rd2 W1 wb br bd 124 F.2.1 F.2.2 ⟨X.1, Y.1, V.1, F.1⟩ z := ⟨_, by
        have eF : F = (fRul (rulP m f).1, (rulP m f).2) := hF.symm
        rw [eF, eR.out]
        subst hQ
        subst hP
        subst hD5
        exact hR.out⟩
      clear hR
      have hR := Box.mk hR'
      clear hR' hF eR
      obtain ⟨z, hz⟩ : ∃ z, z' = z := ⟨_, rfl⟩
      rw [hz] at hR
      clear hz
      obtain ⟨D, hDD⟩ : ∃ D, (⟨X.1, Y.1, V.1, F.1⟩ : Dc) = D := ⟨_, rfl⟩
      rw [hDD] at hR eD hok0
      have hok := hok0.out
      clear hDD hok0
      have hq := Box.mk (Pk.xend_any br F.2.1 F.2.2 _ hR.out.rat)
      obtain ⟨E, hE⟩ : ∃ E, Pk.endE F.2.1 F.2.2 = E := ⟨_, rfl⟩
      rw [hE] at hq
      go_wp2_with fail
      refine hq.out.mono ?_
      clear hq
      rintro r w9 ⟨rfl, hn⟩
      replace hR := Box.mk (hR.out.rd hn)
      clear hn
      have hbe := Box.mk hR.out.bel
      have hS2 := Box.mk (blk_here hS1.out ((hbe.out)))
      by_cases hE0 : E = 0
      · subst hE0
        obtain ⟨hl1, hl2⟩ := hLB.out w9 (mono_bel hB1.out hbe.out (Nat.le_refl _))
        have hq := Box.mk (mrcheck_any D z B w9 hl1 hl2 hR.out.rows.at_ hok)
        have hD := Box.mk hR.out.blk
        cases hc : chkD D with
        | true =>
          have eC : chkDE D = 0 := by unfold chkDE; rw [hc]; rfl
          rw [eC] at hq
          have hdec : Box (decM l = (D, 0)) := ⟨by unfold decM; rw [eD.out, if_pos ⟨hE, hc⟩]⟩
          clear eC hc hE eD hok hl1 hl2
          go_wp2_with (refine wpList_loadG (by rfl) 30 (.tmp 5) rfl bd 0 rfl (docL D z) _ (blk_range hD.out) Tryz.underlying30 rfl (doc_size _ _) ?_)
          refine hq.out.mono ?_
          clear hq
          rintro r wc ⟨rfl, hb⟩
          replace hbe := Box.mk (mono_bel hbe.out hb (Nat.le_refl _))
          have hrw := Box.mk (hR.out.rows.below hb)
          replace hD := Box.mk (blk_here hD.out hb)
          replace hS2 := Box.mk (blk_here hS2.out hb)
          clear hb hR
          go_wp2_with (first | (refine wpList_loadG (by rfl) 30 (.tmp 5) rfl bd 0 rfl (docL D z) _ (blk_range hD.out) Tryz.underlying30 rfl (doc_size _ _) ?_) | (refine wpList_store_doc rfl (.tmp 2) (.tmp 104) rfl b2 D z rfl rfl hS2.out rfl ?_; intro wz hwz; replace hwz := Box.mk hwz))
          obtain ⟨z1, z2, z3⟩ := dec_end hb2 hB1.out hbe.out hS2.out hrw.out hwz.out
          have zl := load_doc z1
          exact bodyPost_ret (v := .tuple #[docV D z, .int .i64 0]) (results_doc Tryz.results13 rfl zl rfl) rfl ⟨⟨z, by rw [hdec.out], by rw [hdec.out]; exact z2⟩, z3⟩
        | false =>
          have eC : chkDE D = 1 := by unfold chkDE; rw [hc]; rfl
          rw [eC] at hq
          have hdec : Box (decM l = (dc0, 3)) := ⟨by unfold decM; rw [eD.out, if_neg (by rw [hc]; simp)]⟩
          clear eC hc hE eD hok hl1 hl2
          go_wp2_with (refine wpList_loadG (by rfl) 30 (.tmp 5) rfl bd 0 rfl (docL D z) _ (blk_range hD.out) Tryz.underlying30 rfl (doc_size _ _) ?_)
          refine hq.out.mono ?_
          clear hq
          rintro r wc ⟨rfl, hb⟩
          replace hbe := Box.mk (mono_bel hbe.out hb (Nat.le_refl _))
          have hrw := Box.mk (DcR.zero W1.heap.size wc)
          replace hS2 := Box.mk (blk_here hS2.out hb)
          clear hb hR
          go_wp2_with (first | (refine wpList_buildD rfl 30 [] rfl [] rfl (docL dc0 zz0) built_zero ?_) | (refine wpList_store_doc rfl (.tmp 2) (.tmp 103) rfl b2 dc0 zz0 rfl rfl hS2.out rfl ?_; intro wz hwz; replace hwz := Box.mk hwz))
          obtain ⟨z1, z2, z3⟩ := dec_end hb2 hB1.out hbe.out hS2.out hrw.out hwz.out
          have zl := load_doc z1
          exact bodyPost_ret (v := .tuple #[docV dc0 zz0, .int .i64 3]) (results_doc Tryz.results13 rfl zl rfl) rfl ⟨⟨zz0, by rw [hdec.out], by rw [hdec.out]; exact z2⟩, z3⟩
      · have hEd : (E != 0) = true := by simpa using hE0
        have hdec : Box (decM l = (dc0, 3)) := ⟨by unfold decM; rw [eD.out, if_neg (fun h => hE0 (hE.symm.trans h.1))]⟩
        have hrw := Box.mk (DcR.zero W1.heap.size w9)
        clear hE hE0 hR eD hok
        go_wp2_with (first | (refine wpList_buildD rfl 30 [] rfl [] rfl (docL dc0 zz0) built_zero ?_) | (refine wpList_store_doc rfl (.tmp 2) (.tmp 103) rfl b2 dc0 zz0 rfl rfl hS2.out rfl ?_; intro wz hwz; replace hwz := Box.mk hwz))
        obtain ⟨z1, z2, z3⟩ := dec_end hb2 hB1.out hbe.out hS2.out hrw.out hwz.out
        have zl := load_doc z1
        exact bodyPost_ret (v := .tuple #[docV dc0 zz0, .int .i64 3]) (results_doc Tryz.results13 rfl zl rfl) rfl ⟨⟨zz0, by rw [hdec.out], by rw [hdec.out]; exact z2⟩, z3⟩
end Go.Proofs.YtiblkfkeifnpaaaGreatDoor.Me
