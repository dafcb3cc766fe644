/- meta: Decode of the document: snapshots, timestamps, no kind. -/
import Derived.Test.YtiblkfkeifnpaaaGreatDoorZmj
set_option linter.all false
namespace Go.Proofs.YtiblkfkeifnpaaaGreatDoor.Me
open Go Go.RowKit Go.Proofs.YtiblkfkeifnpaaaGreatDoor Go.Proofs.YtiblkfkeifnpaaaGreatDoor.Nt
set_option maxHeartbeats 3200000 in
set_option maxRecDepth 100000 in
theorem rdec_0 (s : ByteArray) (B : Nat) (w : World) (hL : NL B w) (hB : B ≤ w.heap.size) (h1 : ¬ (Pk.numR 1 s.data.toList 0).1 = 1) (h2 : ¬ (Pk.numR 1 s.data.toList 0).1 = 2) (h3 : ¬ (Pk.numR 1 s.data.toList 0).1 = 3) (h4 : ¬ (Pk.numR 1 s.data.toList 0).1 = 4) :
    Calls Tryz.prog 13 #[.string s] w fun e w' => DecS w.heap.size s.data.toList e w' ∧ Below w.heap.size w w' := by
  obtain ⟨W1, hW1, hB1, hS1⟩ := doc_new w dc0 zz0 30
  have hW1 : w.alloc (.cells #[.int .i64 0, .int .i64 0, .int .i64 0, .slice none 0 0, .int .i64 0, .slice none 0 0, .int .i64 0, .slice none 0 0, .int .i64 0, .slice none 0 0, .int .i64 0, .slice none 0 0, .int .i64 0, .string ⟨#[]⟩, .string ⟨#[]⟩, .slice none 0 0, .string ⟨#[]⟩, .int .i64 0, .string ⟨#[]⟩, .int .i64 0, .string ⟨#[]⟩] 30) = W1 := hW1
  have hq := Pk.xread_new s W1
  obtain ⟨l, hl⟩ : ∃ l, s.data.toList = l := ⟨_, rfl⟩
  rw [hl] at hq h1 h2 h3 h4 ⊢
  have hLB := Box.mk fun (w' : World) (hb : Below w.heap.size w w') => (⟨hL.here hB hb, by have := hb.size; omega⟩ : NL B w' ∧ B ≤ w'.heap.size)
  have hlt := hS1.lt
  obtain ⟨b2, hb2⟩ : ∃ b2, w.heap.size = b2 := ⟨_, rfl⟩
  obtain ⟨br, hbr⟩ : ∃ br, W1.heap.size = br := ⟨_, rfl⟩
  rw [hb2] at hS1
  have hS1 := Box.mk hS1
  rw [hbr] at hq
  replace hq := Box.mk hq
  clear hl hL hB
  go_enter Tryz.func13, Tryz.ntmps13
  go_wp2_with fail
  refine hq.out.mono ?_
  clear hq
  rintro r w2 ⟨rfl, hra, hbe⟩
  rw [← hbr] at hbe
  obtain ⟨W6, hW6⟩ : ∃ W6, w2.alloc (.cells #[.int .i64 0, .int .i64 0, .int .i64 0, .slice none 0 0, .int .i64 0, .slice none 0 0, .int .i64 0, .slice none 0 0, .int .i64 0, .slice none 0 0, .int .i64 0, .slice none 0 0, .int .i64 0, .string ⟨#[]⟩, .string ⟨#[]⟩, .slice none 0 0, .string ⟨#[]⟩, .int .i64 0, .string ⟨#[]⟩, .int .i64 0, .string ⟨#[]⟩] 30) = W6 := ⟨_, rfl⟩
  have hb6 : Below w2.heap.size w2 W6 := by rw [← hW6]; exact bel_alloc _ _
  have hS6 : Pk.Blk W6 w2.heap.size (docL dc0 zz0) 30 := by rw [← hW6]; exact Pk.Blk.new w2 (docL dc0 zz0) _
  obtain ⟨bd, hbd⟩ : ∃ bd, w2.heap.size = bd := ⟨_, rfl⟩
  have hltr := Pk.Blk.lt hra
  have hbd1 : W1.heap.size ≤ bd := by have := hbe.size; omega
  rw [hbd] at hS6
  have hR : Box (Rd2 W1 W6 br bd 124 l 0 dc0 zz0) := ⟨⟨blk_here (show Pk.Blk w2 _ _ _ from hra) hb6, hS6, DcR.zero _ _, mono_bel hbe hb6 (Nat.le_refl _), by omega, hbd1, by omega, by decide, by decide⟩⟩
  clear hra hbe hb6 hS6 hltr
  have hq := Pk.xnumber_any br l 0 1 W6 hR.out.rat (by decide)
  obtain ⟨X, hX⟩ : ∃ x, Pk.numR 1 l 0 = x := ⟨_, rfl⟩
  rw [hX] at hq
  replace hq := Box.mk hq
  go_wp2_with fail
  refine hq.out.mono ?_
  clear hq
  rintro r wa ⟨rfl, hn⟩
  have hR1 := hR.out.rd hn
  have cA : wa.cell? ⟨bd, 0, none⟩ = some (.int .i64 dc0.k) := hR1.blk.cell 0
  have fA := hR1.free 0
  have hR2 := hR1.k X.1
  obtain ⟨wb, hwb⟩ : ∃ wb, wa.setCell ⟨bd, 0, none⟩ (.int .i64 X.1) = wb := ⟨_, rfl⟩
  rw [hwb] at hR2
  replace hR := Box.mk hR2
  clear hn hR1 hR2
  have hq := Pk.xnumber_any br X.2.1 X.2.2 2 wb hR.out.rat (by decide)
  obtain ⟨Y, hY⟩ : ∃ x, Pk.numR 2 X.2.1 X.2.2 = x := ⟨_, rfl⟩
  rw [hY] at hq
  replace hq := Box.mk hq
  go_wp2_with fail
  refine hq.out.mono ?_
  clear hq
  rintro r wa ⟨rfl, hn⟩
  have hR1 := hR.out.rd hn
  have cA : wa.cell? ⟨bd, 1, none⟩ = some (.int .i64 dc0.v) := hR1.blk.cell 1
  have fA := hR1.free 1
  have hR2 := hR1.v Y.1
  obtain ⟨wb, hwb⟩ : ∃ wb, wa.setCell ⟨bd, 1, none⟩ (.int .i64 Y.1) = wb := ⟨_, rfl⟩
  rw [hwb] at hR2
  replace hR := Box.mk hR2
  clear hn hR1 hR2
  have hq := Pk.xnumber_any br Y.2.1 Y.2.2 8 wb hR.out.rat (by decide)
  obtain ⟨V, hV⟩ : ∃ x, Pk.numR 8 Y.2.1 Y.2.2 = x := ⟨_, rfl⟩
  rw [hV] at hq
  replace hq := Box.mk hq
  go_wp2_with fail
  refine hq.out.mono ?_
  clear hq
  rintro r wa ⟨rfl, hn⟩
  have hR1 := hR.out.rd hn
  have cA : wa.cell? ⟨bd, 2, none⟩ = some (.int .i64 dc0.x) := hR1.blk.cell 2
  have fA := hR1.free 2
  have hR2 := hR1.x V.1
  obtain ⟨wb, hwb⟩ : ∃ wb, wa.setCell ⟨bd, 2, none⟩ (.int .i64 V.1) = wb := ⟨_, rfl⟩
  rw [hwb] at hR2
  replace hR := Box.mk hR2
  clear hn hR1 hR2
  rw [hX] at h1 h2 h3 h4
  have k1 : (X.1 == 1) = false := by simpa using h1
  have k2 : (X.1 == 2) = false := by simpa using h2
  have k3 : (X.1 == 3) = false := by simpa using h3
  have k4 : (X.1 == 4) = false := by simpa using h4
  have c0 : wb.cell? ⟨bd, 0, none⟩ = some (.int .i64 X.1) := hR.out.blk.cell 0
  obtain ⟨F, hF⟩ : ∃ F, fldR X.1 V.2.1 V.2.2 = F := ⟨_, rfl⟩
  have eD : Box (rdD l 0 = (⟨X.1, Y.1, V.1, F.1⟩, F.2)) := ⟨by rw [← hF, ← hV, ← hY, ← hX]; rfl⟩
  have hok0 := rd_len l 0
  rw [eD.out] at hok0
  replace hok0 := Box.mk hok0
  rw [fldR, if_neg h1, if_neg h2, if_neg h3, if_neg h4] at hF
  clear h1 h2 h3 h4
  subst hF
  have hR : Box (Rd2 W1 wb br bd 124 V.2.1 V.2.2 ⟨X.1, Y.1, V.1, fl0⟩ zz0) := ⟨hR.out⟩
  obtain ⟨z, hz⟩ : ∃ z, zz0 = z := ⟨_, rfl⟩
  rw [hz] at hR
  clear hz
  obtain ⟨F, hF⟩ : ∃ F, (fl0, V.2.1, V.2.2) = F := ⟨_, rfl⟩
  have hR : Box (Rd2 W1 wb br bd 124 F.2.1 F.2.2 ⟨X.1, Y.1, V.1, F.1⟩ z) := ⟨by rw [← hF]; exact hR.out⟩
  have eD : Box (rdD l 0 = (⟨X.1, Y.1, V.1, F.1⟩, F.2)) := ⟨by rw [← hF]; exact eD.out⟩
  have hok0 : Box (DcOk ⟨X.1, Y.1, V.1, F.1⟩) := ⟨by rw [← hF]; exact hok0.out⟩
  clear hF
  obtain ⟨D, hDD⟩ : ∃ D, (⟨X.1, Y.1, V.1, F.1⟩ : Dc) = D := ⟨_, rfl⟩
  rw [hDD] at hR eD hok0
  have hok := hok0.out
  clear hDD hok0
  have hq := Box.mk (Pk.xend_any br F.2.1 F.2.2 _ hR.out.rat)
  obtain ⟨E, hE⟩ : ∃ E, Pk.endE F.2.1 F.2.2 = E := ⟨_, rfl⟩
  rw [hE] at hq
  go_wp2_with fail
  refine hq.out.mono ?_
  clear hq
  rintro r w9 ⟨rfl, hn⟩
  replace hR := Box.mk (hR.out.rd hn)
  clear hn
  have hbe := Box.mk hR.out.bel
  have hS2 := Box.mk (blk_here hS1.out ((hbe.out)))
  by_cases hE0 : E = 0
  · subst hE0
    obtain ⟨hl1, hl2⟩ := hLB.out w9 (mono_bel hB1.out hbe.out (Nat.le_refl _))
    have hq := Box.mk (mrcheck_any D z B w9 hl1 hl2 hR.out.rows.at_ hok)
    have hD := Box.mk hR.out.blk
    cases hc : chkD D with
    | true =>
      have eC : chkDE D = 0 := by unfold chkDE; rw [hc]; rfl
      rw [eC] at hq
      have hdec : Box (decM l = (D, 0)) := ⟨by unfold decM; rw [eD.out, if_pos ⟨hE, hc⟩]⟩
      clear eC hc hE eD hok hl1 hl2
      go_wp2_with (refine wpList_loadG (by rfl) 30 (.tmp 5) rfl bd 0 rfl (docL D z) _ (blk_range hD.out) Tryz.underlying30 rfl (doc_size _ _) ?_)
      refine hq.out.mono ?_
      clear hq
      rintro r wc ⟨rfl, hb⟩
      replace hbe := Box.mk (mono_bel hbe.out hb (Nat.le_refl _))
      have hrw := Box.mk (hR.out.rows.below hb)
      replace hD := Box.mk (blk_here hD.out hb)
      replace hS2 := Box.mk (blk_here hS2.out hb)
      clear hb hR
      go_wp2_with (first | (refine wpList_loadG (by rfl) 30 (.tmp 5) rfl bd 0 rfl (docL D z) _ (blk_range hD.out) Tryz.underlying30 rfl (doc_size _ _) ?_) | (refine wpList_store_doc rfl (.tmp 2) (.tmp 104) rfl b2 D z rfl rfl hS2.out rfl ?_; intro wz hwz; replace hwz := Box.mk hwz))
      obtain ⟨z1, z2, z3⟩ := dec_end hb2 hB1.out hbe.out hS2.out hrw.out hwz.out
      have zl := load_doc z1
      exact bodyPost_ret (v := .tuple #[docV D z, .int .i64 0]) (results_doc Tryz.results13 rfl zl rfl) rfl ⟨⟨z, by rw [hdec.out], by rw [hdec.out]; exact z2⟩, z3⟩
    | false =>
      have eC : chkDE D = 1 := by unfold chkDE; rw [hc]; rfl
      rw [eC] at hq
      have hdec : Box (decM l = (dc0, 3)) := ⟨by unfold decM; rw [eD.out, if_neg (by rw [hc]; simp)]⟩
      clear eC hc hE eD hok hl1 hl2
      go_wp2_with (refine wpList_loadG (by rfl) 30 (.tmp 5) rfl bd 0 rfl (docL D z) _ (blk_range hD.out) Tryz.underlying30 rfl (doc_size _ _) ?_)
      refine hq.out.mono ?_
      clear hq
      rintro r wc ⟨rfl, hb⟩
      replace hbe := Box.mk (mono_bel hbe.out hb (Nat.le_refl _))
      have hrw := Box.mk (DcR.zero W1.heap.size wc)
      replace hS2 := Box.mk (blk_here hS2.out hb)
      clear hb hR
      go_wp2_with (first | (refine wpList_buildD rfl 30 [] rfl [] rfl (docL dc0 zz0) built_zero ?_) | (refine wpList_store_doc rfl (.tmp 2) (.tmp 103) rfl b2 dc0 zz0 rfl rfl hS2.out rfl ?_; intro wz hwz; replace hwz := Box.mk hwz))
      obtain ⟨z1, z2, z3⟩ := dec_end hb2 hB1.out hbe.out hS2.out hrw.out hwz.out
      have zl := load_doc z1
      exact bodyPost_ret (v := .tuple #[docV dc0 zz0, .int .i64 3]) (results_doc Tryz.results13 rfl zl rfl) rfl ⟨⟨zz0, by rw [hdec.out], by rw [hdec.out]; exact z2⟩, z3⟩
  · have hEd : (E != 0) = true := by simpa using hE0
    have hdec : Box (decM l = (dc0, 3)) := ⟨by unfold decM; rw [eD.out, if_neg (fun h => hE0 (hE.symm.trans h.1))]⟩
    have hrw := Box.mk (DcR.zero W1.heap.size w9)
    clear hE hE0 hR eD hok
    go_wp2_with (first | (refine wpList_buildD rfl 30 [] rfl [] rfl (docL dc0 zz0) built_zero ?_) | (refine wpList_store_doc rfl (.tmp 2) (.tmp 103) rfl b2 dc0 zz0 rfl rfl hS2.out rfl ?_; intro wz hwz; replace hwz := Box.mk hwz))
    obtain ⟨z1, z2, z3⟩ := dec_end hb2 hB1.out hbe.out hS2.out hrw.out hwz.out
    have zl := load_doc z1
    exact bodyPost_ret (v := .tuple #[docV dc0 zz0, .int .i64 3]) (results_doc Tryz.results13 rfl zl rfl) rfl ⟨⟨zz0, by rw [hdec.out], by rw [hdec.out]; exact z2⟩, z3⟩
set_option maxHeartbeats 3200000 in
set_option maxRecDepth 100000 in
theorem rdec_3 (s : ByteArray) (B : Nat) (w : World) (hL : NL B w) (hB : B ≤ w.heap.size) (hk : (Pk.numR 1 s.data.toList 0).1 = 3) :
    Calls Tryz.prog 13 #[.string s] w fun e w' => DecS w.heap.size s.data.toList e w' ∧ Below w.heap.size w w' := by
  obtain ⟨W1, hW1, hB1, hS1⟩ := doc_new w dc0 zz0 30
  have hW1 : w.alloc (.cells #[.int .i64 0, .int .i64 0, .int .i64 0, .slice none 0 0, .int .i64 0, .slice none 0 0, .int .i64 0, .slice none 0 0, .int .i64 0, .slice none 0 0, .int .i64 0, .slice none 0 0, .int .i64 0, .string ⟨#[]⟩, .string ⟨#[]⟩, .slice none 0 0, .string ⟨#[]⟩, .int .i64 0, .string ⟨#[]⟩, .int .i64 0, .string ⟨#[]⟩] 30) = W1 := hW1
  have hq := Pk.xread_new s W1
  obtain ⟨l, hl⟩ : ∃ l, s.data.toList = l := ⟨_, rfl⟩
  rw [hl] at hq hk ⊢
  have hLB := Box.mk fun (w' : World) (hb : Below w.heap.size w w') => (⟨hL.here hB hb, by have := hb.size; omega⟩ : NL B w' ∧ B ≤ w'.heap.size)
  have hlt := hS1.lt
  obtain ⟨b2, hb2⟩ : ∃ b2, w.heap.size = b2 := ⟨_, rfl⟩
  obtain ⟨br, hbr⟩ : ∃ br, W1.heap.size = br := ⟨_, rfl⟩
  rw [hb2] at hS1
  have hS1 := Box.mk hS1
  rw [hbr] at hq
  replace hq := Box.mk hq
  clear hl hL hB
  go_enter Tryz.func13, Tryz.ntmps13
  go_wp2_with fail
  refine hq.out.mono ?_
  clear hq
  rintro r w2 ⟨rfl, hra, hbe⟩
  rw [← hbr] at hbe
  obtain ⟨W6, hW6⟩ : ∃ W6, w2.alloc (.cells #[.int .i64 0, .int .i64 0, .int .i64 0, .slice none 0 0, .int .i64 0, .slice none 0 0, .int .i64 0, .slice none 0 0, .int .i64 0, .slice none 0 0, .int .i64 0, .slice none 0 0, .int .i64 0, .string ⟨#[]⟩, .string ⟨#[]⟩, .slice none 0 0, .string ⟨#[]⟩, .int .i64 0, .string ⟨#[]⟩, .int .i64 0, .string ⟨#[]⟩] 30) = W6 := ⟨_, rfl⟩
  have hb6 : Below w2.heap.size w2 W6 := by rw [← hW6]; exact bel_alloc _ _
  have hS6 : Pk.Blk W6 w2.heap.size (docL dc0 zz0) 30 := by rw [← hW6]; exact Pk.Blk.new w2 (docL dc0 zz0) _
  obtain ⟨bd, hbd⟩ : ∃ bd, w2.heap.size = bd := ⟨_, rfl⟩
  have hltr := Pk.Blk.lt hra
  have hbd1 : W1.heap.size ≤ bd := by have := hbe.size; omega
  rw [hbd] at hS6
  have hR : Box (Rd2 W1 W6 br bd 124 l 0 dc0 zz0) := ⟨⟨blk_here (show Pk.Blk w2 _ _ _ from hra) hb6, hS6, DcR.zero _ _, mono_bel hbe hb6 (Nat.le_refl _), by omega, hbd1, by omega, by decide, by decide⟩⟩
  clear hra hbe hb6 hS6 hltr
  have hq := Pk.xnumber_any br l 0 1 W6 hR.out.rat (by decide)
  obtain ⟨X, hX⟩ : ∃ x, Pk.numR 1 l 0 = x := ⟨_, rfl⟩
  rw [hX] at hq
  replace hq := Box.mk hq
  go_wp2_with fail
  refine hq.out.mono ?_
  clear hq
  rintro r wa ⟨rfl, hn⟩
  have hR1 := hR.out.rd hn
  have cA : wa.cell? ⟨bd, 0, none⟩ = some (.int .i64 dc0.k) := hR1.blk.cell 0
  have fA := hR1.free 0
  have hR2 := hR1.k X.1
  obtain ⟨wb, hwb⟩ : ∃ wb, wa.setCell ⟨bd, 0, none⟩ (.int .i64 X.1) = wb := ⟨_, rfl⟩
  rw [hwb] at hR2
  replace hR := Box.mk hR2
  clear hn hR1 hR2
  have hq := Pk.xnumber_any br X.2.1 X.2.2 2 wb hR.out.rat (by decide)
  obtain ⟨Y, hY⟩ : ∃ x, Pk.numR 2 X.2.1 X.2.2 = x := ⟨_, rfl⟩
  rw [hY] at hq
  replace hq := Box.mk hq
  go_wp2_with fail
  refine hq.out.mono ?_
  clear hq
  rintro r wa ⟨rfl, hn⟩
  have hR1 := hR.out.rd hn
  have cA : wa.cell? ⟨bd, 1, none⟩ = some (.int .i64 dc0.v) := hR1.blk.cell 1
  have fA := hR1.free 1
  have hR2 := hR1.v Y.1
  obtain ⟨wb, hwb⟩ : ∃ wb, wa.setCell ⟨bd, 1, none⟩ (.int .i64 Y.1) = wb := ⟨_, rfl⟩
  rw [hwb] at hR2
  replace hR := Box.mk hR2
  clear hn hR1 hR2
  have hq := Pk.xnumber_any br Y.2.1 Y.2.2 8 wb hR.out.rat (by decide)
  obtain ⟨V, hV⟩ : ∃ x, Pk.numR 8 Y.2.1 Y.2.2 = x := ⟨_, rfl⟩
  rw [hV] at hq
  replace hq := Box.mk hq
  go_wp2_with fail
  refine hq.out.mono ?_
  clear hq
  rintro r wa ⟨rfl, hn⟩
  have hR1 := hR.out.rd hn
  have cA : wa.cell? ⟨bd, 2, none⟩ = some (.int .i64 dc0.x) := hR1.blk.cell 2
  have fA := hR1.free 2
  have hR2 := hR1.x V.1
  obtain ⟨wb, hwb⟩ : ∃ wb, wa.setCell ⟨bd, 2, none⟩ (.int .i64 V.1) = wb := ⟨_, rfl⟩
  rw [hwb] at hR2
  replace hR := Box.mk hR2
  clear hn hR1 hR2
  rw [hX] at hk
  have k1 : (X.1 == 1) = false := by rw [hk]; rfl
  have k2 : (X.1 == 2) = false := by rw [hk]; rfl
  have k3 : (X.1 == 3) = true := by rw [hk]; rfl
  have k4 : (X.1 == 4) = false := by rw [hk]; rfl
  have c0 : wb.cell? ⟨bd, 0, none⟩ = some (.int .i64 X.1) := hR.out.blk.cell 0
  obtain ⟨F, hF⟩ : ∃ F, fldR X.1 V.2.1 V.2.2 = F := ⟨_, rfl⟩
  have eD : Box (rdD l 0 = (⟨X.1, Y.1, V.1, F.1⟩, F.2)) := ⟨by rw [← hF, ← hV, ← hY, ← hX]; rfl⟩
  have hok0 := rd_len l 0
  rw [eD.out] at hok0
  replace hok0 := Box.mk hok0
  rw [hk] at hF
  replace hk := Box.mk hk
  have hR : Box (Rd2 W1 wb br bd 124 V.2.1 V.2.2 ⟨X.1, Y.1, V.1, fl0⟩ zz0) := ⟨hR.out⟩
  have hq := Pk.xnumber_any br V.2.1 V.2.2 2 wb hR.out.rat (by decide)
  obtain ⟨P, hP⟩ : ∃ x, Pk.numR 2 V.2.1 V.2.2 = x := ⟨_, rfl⟩
  rw [hP] at hq
  replace hq := Box.mk hq
  go_wp2_with fail
  refine hq.out.mono ?_
  clear hq
  rintro r wa ⟨rfl, hn⟩
  have hR1 := hR.out.rd hn
  have cA : wa.cell? ⟨bd, 19, none⟩ = some (.int .i64 fl0.oo) := hR1.blk.cell 19
  have fA := hR1.free 19
  have hR2 := hR1.oo P.1
  obtain ⟨wb, hwb⟩ : ∃ wb, wa.setCell ⟨bd, 19, none⟩ (.int .i64 P.1) = wb := ⟨_, rfl⟩
  rw [hwb] at hR2
  replace hR := Box.mk hR2
  clear hn hR1 hR2
  have hq := Pk.xraw_any br P.2.1 P.2.2 32 wb hR.out.rat
  obtain ⟨Q, hQ⟩ : ∃ x, Pk.rawR 32 P.2.1 P.2.2 = x := ⟨_, rfl⟩
  rw [hQ] at hq
  replace hq := Box.mk hq
  go_wp2_with fail
  refine hq.out.mono ?_
  clear hq
  rintro r wa ⟨rfl, hn⟩
  have hR1 := hR.out.rd hn
  have cA : wa.cell? ⟨bd, 20, none⟩ = some (.string fl0.hs) := hR1.blk.cell 20
  have fA := hR1.free 20
  have hR2 := hR1.hs (Pk.btx Q.1)
  obtain ⟨wb, hwb⟩ : ∃ wb, wa.setCell ⟨bd, 20, none⟩ (.string (Pk.btx Q.1)) = wb := ⟨_, rfl⟩
  rw [hwb] at hR2
  replace hR := Box.mk hR2
  clear hn hR1 hR2
  have hq := Pk.xtext_any br Q.2.1 Q.2.2 64 wb hR.out.rat
  obtain ⟨R1, hR1⟩ : ∃ x, Pk.textR 64 Q.2.1 Q.2.2 = x := ⟨_, rfl⟩
  rw [hR1] at hq
  replace hq := Box.mk hq
  go_wp2_with fail
  refine hq.out.mono ?_
  clear hq
  rintro r wa ⟨rfl, hn⟩
  have hR1 := hR.out.rd hn
  have cA : wa.cell? ⟨bd, 16, none⟩ = some (.string fl0.pt.o) := hR1.blk.cell 16
  have fA := hR1.free 16
  have hR2 := hR1.po (Pk.btx R1.1)
  obtain ⟨wb, hwb⟩ : ∃ wb, wa.setCell ⟨bd, 16, none⟩ (.string (Pk.btx R1.1)) = wb := ⟨_, rfl⟩
  rw [hwb] at hR2
  replace hR := Box.mk hR2
  clear hn hR1 hR2
  have hq := Pk.xnumber_any br R1.2.1 R1.2.2 2 wb hR.out.rat (by decide)
  obtain ⟨R2, hR2⟩ : ∃ x, Pk.numR 2 R1.2.1 R1.2.2 = x := ⟨_, rfl⟩
  rw [hR2] at hq
  replace hq := Box.mk hq
  go_wp2_with fail
  refine hq.out.mono ?_
  clear hq
  rintro r wa ⟨rfl, hn⟩
  have hR1 := hR.out.rd hn
  have cA : wa.cell? ⟨bd, 17, none⟩ = some (.int .i64 fl0.pt.n) := hR1.blk.cell 17
  have fA := hR1.free 17
  have hR2 := hR1.pn R2.1
  obtain ⟨wb, hwb⟩ : ∃ wb, wa.setCell ⟨bd, 17, none⟩ (.int .i64 R2.1) = wb := ⟨_, rfl⟩
  rw [hwb] at hR2
  replace hR := Box.mk hR2
  clear hn hR1 hR2
  have hq := Pk.xraw_any br R2.2.1 R2.2.2 32 wb hR.out.rat
  obtain ⟨R3, hR3⟩ : ∃ x, Pk.rawR 32 R2.2.1 R2.2.2 = x := ⟨_, rfl⟩
  rw [hR3] at hq
  replace hq := Box.mk hq
  go_wp2_with fail
  refine hq.out.mono ?_
  clear hq
  rintro r wa ⟨rfl, hn⟩
  have hR1 := hR.out.rd hn
  have cA : wa.cell? ⟨bd, 18, none⟩ = some (.string fl0.pt.r) := hR1.blk.cell 18
  have fA := hR1.free 18
  have hR2 := hR1.pr (Pk.btx R3.1)
  obtain ⟨wb, hwb⟩ : ∃ wb, wa.setCell ⟨bd, 18, none⟩ (.string (Pk.btx R3.1)) = wb := ⟨_, rfl⟩
  rw [hwb] at hR2
  replace hR := Box.mk hR2
  clear hn hR1 hR2
  have eF : F = ({ fl0 with oo := P.1, hs := Pk.btx Q.1, pt := ⟨Pk.btx R1.1, R2.1, Pk.btx R3.1⟩ }, R3.2.1, R3.2.2) := by rw [← hF, ← hR3, ← hR2, ← hR1, ← hQ, ← hP]; rfl
  have hR : Box (Rd2 W1 wb br bd 124 F.2.1 F.2.2 ⟨X.1, Y.1, V.1, F.1⟩ zz0) := ⟨by rw [eF]; exact hR.out⟩
  obtain ⟨z, hz⟩ : ∃ z, zz0 = z := ⟨_, rfl⟩
  rw [hz] at hR
  clear hz eF hF hR1 hR2 hR3
  obtain ⟨D, hDD⟩ : ∃ D, (⟨X.1, Y.1, V.1, F.1⟩ : Dc) = D := ⟨_, rfl⟩
  rw [hDD] at hR eD hok0
  have hok := hok0.out
  clear hDD hok0
  have hq := Box.mk (Pk.xend_any br F.2.1 F.2.2 _ hR.out.rat)
  obtain ⟨E, hE⟩ : ∃ E, Pk.endE F.2.1 F.2.2 = E := ⟨_, rfl⟩
  rw [hE] at hq
  go_wp2_with fail
  refine hq.out.mono ?_
  clear hq
  rintro r w9 ⟨rfl, hn⟩
  replace hR := Box.mk (hR.out.rd hn)
  clear hn
  have hbe := Box.mk hR.out.bel
  have hS2 := Box.mk (blk_here hS1.out ((hbe.out)))
  by_cases hE0 : E = 0
  · subst hE0
    obtain ⟨hl1, hl2⟩ := hLB.out w9 (mono_bel hB1.out hbe.out (Nat.le_refl _))
    have hq := Box.mk (mrcheck_any D z B w9 hl1 hl2 hR.out.rows.at_ hok)
    have hD := Box.mk hR.out.blk
    cases hc : chkD D with
    | true =>
      have eC : chkDE D = 0 := by unfold chkDE; rw [hc]; rfl
      rw [eC] at hq
      have hdec : Box (decM l = (D, 0)) := ⟨by unfold decM; rw [eD.out, if_pos ⟨hE, hc⟩]⟩
      clear eC hc hE eD hok hl1 hl2
      go_wp2_with (refine wpList_loadG (by rfl) 30 (.tmp 5) rfl bd 0 rfl (docL D z) _ (blk_range hD.out) Tryz.underlying30 rfl (doc_size _ _) ?_)
      refine hq.out.mono ?_
      clear hq
      rintro r wc ⟨rfl, hb⟩
      replace hbe := Box.mk (mono_bel hbe.out hb (Nat.le_refl _))
      have hrw := Box.mk (hR.out.rows.below hb)
      replace hD := Box.mk (blk_here hD.out hb)
      replace hS2 := Box.mk (blk_here hS2.out hb)
      clear hb hR
      go_wp2_with (first | (refine wpList_loadG (by rfl) 30 (.tmp 5) rfl bd 0 rfl (docL D z) _ (blk_range hD.out) Tryz.underlying30 rfl (doc_size _ _) ?_) | (refine wpList_store_doc rfl (.tmp 2) (.tmp 104) rfl b2 D z rfl rfl hS2.out rfl ?_; intro wz hwz; replace hwz := Box.mk hwz))
      obtain ⟨z1, z2, z3⟩ := dec_end hb2 hB1.out hbe.out hS2.out hrw.out hwz.out
      have zl := load_doc z1
      exact bodyPost_ret (v := .tuple #[docV D z, .int .i64 0]) (results_doc Tryz.results13 rfl zl rfl) rfl ⟨⟨z, by rw [hdec.out], by rw [hdec.out]; exact z2⟩, z3⟩
    | false =>
      have eC : chkDE D = 1 := by unfold chkDE; rw [hc]; rfl
      rw [eC] at hq
      have hdec : Box (decM l = (dc0, 3)) := ⟨by unfold decM; rw [eD.out, if_neg (by rw [hc]; simp)]⟩
      clear eC hc hE eD hok hl1 hl2
      go_wp2_with (refine wpList_loadG (by rfl) 30 (.tmp 5) rfl bd 0 rfl (docL D z) _ (blk_range hD.out) Tryz.underlying30 rfl (doc_size _ _) ?_)
      refine hq.out.mono ?_
      clear hq
      rintro r wc ⟨rfl, hb⟩
      replace hbe := Box.mk (mono_bel hbe.out hb (Nat.le_refl _))
      have hrw := Box.mk (DcR.zero W1.heap.size wc)
      replace hS2 := Box.mk (blk_here hS2.out hb)
      clear hb hR
      go_wp2_with (first | (refine wpList_buildD rfl 30 [] rfl [] rfl (docL dc0 zz0) built_zero ?_) | (refine wpList_store_doc rfl (.tmp 2) (.tmp 103) rfl b2 dc0 zz0 rfl rfl hS2.out rfl ?_; intro wz hwz; replace hwz := Box.mk hwz))
      obtain ⟨z1, z2, z3⟩ := dec_end hb2 hB1.out hbe.out hS2.out hrw.out hwz.out
      have zl := load_doc z1
      exact bodyPost_ret (v := .tuple #[docV dc0 zz0, .int .i64 3]) (results_doc Tryz.results13 rfl zl rfl) rfl ⟨⟨zz0, by rw [hdec.out], by rw [hdec.out]; exact z2⟩, z3⟩
  · have hEd : (E != 0) = true := by simpa using hE0
    have hdec : Box (decM l = (dc0, 3)) := ⟨by unfold decM; rw [eD.out, if_neg (fun h => hE0 (hE.symm.trans h.1))]⟩
    have hrw := Box.mk (DcR.zero W1.heap.size w9)
    clear hE hE0 hR eD hok
    go_wp2_with (first | (refine wpList_buildD rfl 30 [] rfl [] rfl (docL dc0 zz0) built_zero ?_) | (refine wpList_store_doc rfl (.tmp 2) (.tmp 103) rfl b2 dc0 zz0 rfl rfl hS2.out rfl ?_; intro wz hwz; replace hwz := Box.mk hwz))
    obtain ⟨z1, z2, z3⟩ := dec_end hb2 hB1.out hbe.out hS2.out hrw.out hwz.out
    have zl := load_doc z1
    exact bodyPost_ret (v := .tuple #[docV dc0 zz0, .int .i64 3]) (results_doc Tryz.results13 rfl zl rfl) rfl ⟨⟨zz0, by rw [hdec.out], by rw [hdec.out]; exact z2⟩, z3⟩
set_option maxHeartbeats 3200000 in
set_option maxRecDepth 100000 in
theorem rdec_4 (s : ByteArray) (B : Nat) (w : World) (hL : NL B w) (hB : B ≤ w.heap.size) (hk : (Pk.numR 1 s.data.toList 0).1 = 4) :
    Calls Tryz.prog 13 #[.string s] w fun e w' => DecS w.heap.size s.data.toList e w' ∧ Below w.heap.size w w' := by
  obtain ⟨W1, hW1, hB1, hS1⟩ := doc_new w dc0 zz0 30
  have hW1 : w.alloc (.cells #[.int .i64 0, .int .i64 0, .int .i64 0, .slice none 0 0, .int .i64 0, .slice none 0 0, .int .i64 0, .slice none 0 0, .int .i64 0, .slice none 0 0, .int .i64 0, .slice none 0 0, .int .i64 0, .string ⟨#[]⟩, .string ⟨#[]⟩, .slice none 0 0, .string ⟨#[]⟩, .int .i64 0, .string ⟨#[]⟩, .int .i64 0, .string ⟨#[]⟩] 30) = W1 := hW1
  have hq := Pk.xread_new s W1
  obtain ⟨l, hl⟩ : ∃ l, s.data.toList = l := ⟨_, rfl⟩
  rw [hl] at hq hk ⊢
  have hLB := Box.mk fun (w' : World) (hb : Below w.heap.size w w') => (⟨hL.here hB hb, by have := hb.size; omega⟩ : NL B w' ∧ B ≤ w'.heap.size)
  have hlt := hS1.lt
  obtain ⟨b2, hb2⟩ : ∃ b2, w.heap.size = b2 := ⟨_, rfl⟩
  obtain ⟨br, hbr⟩ : ∃ br, W1.heap.size = br := ⟨_, rfl⟩
  rw [hb2] at hS1
  have hS1 := Box.mk hS1
  rw [hbr] at hq
  replace hq := Box.mk hq
  clear hl hL hB
  go_enter Tryz.func13, Tryz.ntmps13
  go_wp2_with fail
  refine hq.out.mono ?_
  clear hq
  rintro r w2 ⟨rfl, hra, hbe⟩
  rw [← hbr] at hbe
  obtain ⟨W6, hW6⟩ : ∃ W6, w2.alloc (.cells #[.int .i64 0, .int .i64 0, .int .i64 0, .slice none 0 0, .int .i64 0, .slice none 0 0, .int .i64 0, .slice none 0 0, .int .i64 0, .slice none 0 0, .int .i64 0, .slice none 0 0, .int .i64 0, .string ⟨#[]⟩, .string ⟨#[]⟩, .slice none 0 0, .string ⟨#[]⟩, .int .i64 0, .string ⟨#[]⟩, .int .i64 0, .string ⟨#[]⟩] 30) = W6 := ⟨_, rfl⟩
  have hb6 : Below w2.heap.size w2 W6 := by rw [← hW6]; exact bel_alloc _ _
  have hS6 : Pk.Blk W6 w2.heap.size (docL dc0 zz0) 30 := by rw [← hW6]; exact Pk.Blk.new w2 (docL dc0 zz0) _
  obtain ⟨bd, hbd⟩ : ∃ bd, w2.heap.size = bd := ⟨_, rfl⟩
  have hltr := Pk.Blk.lt hra
  have hbd1 : W1.heap.size ≤ bd := by have := hbe.size; omega
  rw [hbd] at hS6
  have hR : Box (Rd2 W1 W6 br bd 124 l 0 dc0 zz0) := ⟨⟨blk_here (show Pk.Blk w2 _ _ _ from hra) hb6, hS6, DcR.zero _ _, mono_bel hbe hb6 (Nat.le_refl _), by omega, hbd1, by omega, by decide, by decide⟩⟩
  clear hra hbe hb6 hS6 hltr
  have hq := Pk.xnumber_any br l 0 1 W6 hR.out.rat (by decide)
  obtain ⟨X, hX⟩ : ∃ x, Pk.numR 1 l 0 = x := ⟨_, rfl⟩
  rw [hX] at hq
  replace hq := Box.mk hq
  go_wp2_with fail
  refine hq.out.mono ?_
  clear hq
  rintro r wa ⟨rfl, hn⟩
  have hR1 := hR.out.rd hn
  have cA : wa.cell? ⟨bd, 0, none⟩ = some (.int .i64 dc0.k) := hR1.blk.cell 0
  have fA := hR1.free 0
  have hR2 := hR1.k X.1
  obtain ⟨wb, hwb⟩ : ∃ wb, wa.setCell ⟨bd, 0, none⟩ (.int .i64 X.1) = wb := ⟨_, rfl⟩
  rw [hwb] at hR2
  replace hR := Box.mk hR2
  clear hn hR1 hR2
  have hq := Pk.xnumber_any br X.2.1 X.2.2 2 wb hR.out.rat (by decide)
  obtain ⟨Y, hY⟩ : ∃ x, Pk.numR 2 X.2.1 X.2.2 = x := ⟨_, rfl⟩
  rw [hY] at hq
  replace hq := Box.mk hq
  go_wp2_with fail
  refine hq.out.mono ?_
  clear hq
  rintro r wa ⟨rfl, hn⟩
  have hR1 := hR.out.rd hn
  have cA : wa.cell? ⟨bd, 1, none⟩ = some (.int .i64 dc0.v) := hR1.blk.cell 1
  have fA := hR1.free 1
  have hR2 := hR1.v Y.1
  obtain ⟨wb, hwb⟩ : ∃ wb, wa.setCell ⟨bd, 1, none⟩ (.int .i64 Y.1) = wb := ⟨_, rfl⟩
  rw [hwb] at hR2
  replace hR := Box.mk hR2
  clear hn hR1 hR2
  have hq := Pk.xnumber_any br Y.2.1 Y.2.2 8 wb hR.out.rat (by decide)
  obtain ⟨V, hV⟩ : ∃ x, Pk.numR 8 Y.2.1 Y.2.2 = x := ⟨_, rfl⟩
  rw [hV] at hq
  replace hq := Box.mk hq
  go_wp2_with fail
  refine hq.out.mono ?_
  clear hq
  rintro r wa ⟨rfl, hn⟩
  have hR1 := hR.out.rd hn
  have cA : wa.cell? ⟨bd, 2, none⟩ = some (.int .i64 dc0.x) := hR1.blk.cell 2
  have fA := hR1.free 2
  have hR2 := hR1.x V.1
  obtain ⟨wb, hwb⟩ : ∃ wb, wa.setCell ⟨bd, 2, none⟩ (.int .i64 V.1) = wb := ⟨_, rfl⟩
  rw [hwb] at hR2
  replace hR := Box.mk hR2
  clear hn hR1 hR2
  rw [hX] at hk
  have k1 : (X.1 == 1) = false := by rw [hk]; rfl
  have k2 : (X.1 == 2) = false := by rw [hk]; rfl
  have k3 : (X.1 == 3) = false := by rw [hk]; rfl
  have k4 : (X.1 == 4) = true := by rw [hk]; rfl
  have c0 : wb.cell? ⟨bd, 0, none⟩ = some (.int .i64 X.1) := hR.out.blk.cell 0
  obtain ⟨F, hF⟩ : ∃ F, fldR X.1 V.2.1 V.2.2 = F := ⟨_, rfl⟩
  have eD : Box (rdD l 0 = (⟨X.1, Y.1, V.1, F.1⟩, F.2)) := ⟨by rw [← hF, ← hV, ← hY, ← hX]; rfl⟩
  have hok0 := rd_len l 0
  rw [eD.out] at hok0
  replace hok0 := Box.mk hok0
  rw [hk] at hF
  replace hk := Box.mk hk
  have hR : Box (Rd2 W1 wb br bd 124 V.2.1 V.2.2 ⟨X.1, Y.1, V.1, fl0⟩ zz0) := ⟨hR.out⟩
  have hq := Pk.xnumber_any br V.2.1 V.2.2 2 wb hR.out.rat (by decide)
  obtain ⟨P, hP⟩ : ∃ x, Pk.numR 2 V.2.1 V.2.2 = x := ⟨_, rfl⟩
  rw [hP] at hq
  replace hq := Box.mk hq
  go_wp2_with fail
  refine hq.out.mono ?_
  clear hq
  rintro r wa ⟨rfl, hn⟩
  have hR1 := hR.out.rd hn
  have cA : wa.cell? ⟨bd, 19, none⟩ = some (.int .i64 fl0.oo) := hR1.blk.cell 19
  have fA := hR1.free 19
  have hR2 := hR1.oo P.1
  obtain ⟨wb, hwb⟩ : ∃ wb, wa.setCell ⟨bd, 19, none⟩ (.int .i64 P.1) = wb := ⟨_, rfl⟩
  rw [hwb] at hR2
  replace hR := Box.mk hR2
  clear hn hR1 hR2
  have hq := Pk.xraw_any br P.2.1 P.2.2 32 wb hR.out.rat
  obtain ⟨Q, hQ⟩ : ∃ x, Pk.rawR 32 P.2.1 P.2.2 = x := ⟨_, rfl⟩
  rw [hQ] at hq
  replace hq := Box.mk hq
  go_wp2_with fail
  refine hq.out.mono ?_
  clear hq
  rintro r wa ⟨rfl, hn⟩
  have hR1 := hR.out.rd hn
  have cA : wa.cell? ⟨bd, 20, none⟩ = some (.string fl0.hs) := hR1.blk.cell 20
  have fA := hR1.free 20
  have hR2 := hR1.hs (Pk.btx Q.1)
  obtain ⟨wb, hwb⟩ : ∃ wb, wa.setCell ⟨bd, 20, none⟩ (.string (Pk.btx Q.1)) = wb := ⟨_, rfl⟩
  rw [hwb] at hR2
  replace hR := Box.mk hR2
  clear hn hR1 hR2
  have eF : F = ({ fl0 with oo := P.1, hs := Pk.btx Q.1 }, Q.2.1, Q.2.2) := by rw [← hF, ← hQ, ← hP]; rfl
  have hR : Box (Rd2 W1 wb br bd 124 F.2.1 F.2.2 ⟨X.1, Y.1, V.1, F.1⟩ zz0) := ⟨by rw [eF]; exact hR.out⟩
  obtain ⟨z, hz⟩ : ∃ z, zz0 = z := ⟨_, rfl⟩
  rw [hz] at hR
  clear hz eF hF 
  obtain ⟨D, hDD⟩ : ∃ D, (⟨X.1, Y.1, V.1, F.1⟩ : Dc) = D := ⟨_, rfl⟩
  rw [hDD] at hR eD hok0
  have hok := hok0.out
  clear hDD hok0
  have hq := Box.mk (Pk.xend_any br F.2.1 F.2.2 _ hR.out.rat)
  obtain ⟨E, hE⟩ : ∃ E, Pk.endE F.2.1 F.2.2 = E := ⟨_, rfl⟩
  rw [hE] at hq
  go_wp2_with fail
  refine hq.out.mono ?_
  clear hq
  rintro r w9 ⟨rfl, hn⟩
  replace hR := Box.mk (hR.out.rd hn)
  clear hn
  have hbe := Box.mk hR.out.bel
  have hS2 := Box.mk (blk_here hS1.out ((hbe.out)))
  by_cases hE0 : E = 0
  · subst hE0
    obtain ⟨hl1, hl2⟩ := hLB.out w9 (mono_bel hB1.out hbe.out (Nat.le_refl _))
    have hq := Box.mk (mrcheck_any D z B w9 hl1 hl2 hR.out.rows.at_ hok)
    have hD := Box.mk hR.out.blk
    cases hc : chkD D with
    | true =>
      have eC : chkDE D = 0 := by unfold chkDE; rw [hc]; rfl
      rw [eC] at hq
      have hdec : Box (decM l = (D, 0)) := ⟨by unfold decM; rw [eD.out, if_pos ⟨hE, hc⟩]⟩
      clear eC hc hE eD hok hl1 hl2
      go_wp2_with (refine wpList_loadG (by rfl) 30 (.tmp 5) rfl bd 0 rfl (docL D z) _ (blk_range hD.out) Tryz.underlying30 rfl (doc_size _ _) ?_)
      refine hq.out.mono ?_
      clear hq
      rintro r wc ⟨rfl, hb⟩
      replace hbe := Box.mk (mono_bel hbe.out hb (Nat.le_refl _))
      have hrw := Box.mk (hR.out.rows.below hb)
      replace hD := Box.mk (blk_here hD.out hb)
      replace hS2 := Box.mk (blk_here hS2.out hb)
      clear hb hR
      go_wp2_with (first | (refine wpList_loadG (by rfl) 30 (.tmp 5) rfl bd 0 rfl (docL D z) _ (blk_range hD.out) Tryz.underlying30 rfl (doc_size _ _) ?_) | (refine wpList_store_doc rfl (.tmp 2) (.tmp 104) rfl b2 D z rfl rfl hS2.out rfl ?_; intro wz hwz; replace hwz := Box.mk hwz))
      obtain ⟨z1, z2, z3⟩ := dec_end hb2 hB1.out hbe.out hS2.out hrw.out hwz.out
      have zl := load_doc z1
      exact bodyPost_ret (v := .tuple #[docV D z, .int .i64 0]) (results_doc Tryz.results13 rfl zl rfl) rfl ⟨⟨z, by rw [hdec.out], by rw [hdec.out]; exact z2⟩, z3⟩
    | false =>
      have eC : chkDE D = 1 := by unfold chkDE; rw [hc]; rfl
      rw [eC] at hq
      have hdec : Box (decM l = (dc0, 3)) := ⟨by unfold decM; rw [eD.out, if_neg (by rw [hc]; simp)]⟩
      clear eC hc hE eD hok hl1 hl2
      go_wp2_with (refine wpList_loadG (by rfl) 30 (.tmp 5) rfl bd 0 rfl (docL D z) _ (blk_range hD.out) Tryz.underlying30 rfl (doc_size _ _) ?_)
      refine hq.out.mono ?_
      clear hq
      rintro r wc ⟨rfl, hb⟩
      replace hbe := Box.mk (mono_bel hbe.out hb (Nat.le_refl _))
      have hrw := Box.mk (DcR.zero W1.heap.size wc)
      replace hS2 := Box.mk (blk_here hS2.out hb)
      clear hb hR
      go_wp2_with (first | (refine wpList_buildD rfl 30 [] rfl [] rfl (docL dc0 zz0) built_zero ?_) | (refine wpList_store_doc rfl (.tmp 2) (.tmp 103) rfl b2 dc0 zz0 rfl rfl hS2.out rfl ?_; intro wz hwz; replace hwz := Box.mk hwz))
      obtain ⟨z1, z2, z3⟩ := dec_end hb2 hB1.out hbe.out hS2.out hrw.out hwz.out
      have zl := load_doc z1
      exact bodyPost_ret (v := .tuple #[docV dc0 zz0, .int .i64 3]) (results_doc Tryz.results13 rfl zl rfl) rfl ⟨⟨zz0, by rw [hdec.out], by rw [hdec.out]; exact z2⟩, z3⟩
  · have hEd : (E != 0) = true := by simpa using hE0
    have hdec : Box (decM l = (dc0, 3)) := ⟨by unfold decM; rw [eD.out, if_neg (fun h => hE0 (hE.symm.trans h.1))]⟩
    have hrw := Box.mk (DcR.zero W1.heap.size w9)
    clear hE hE0 hR eD hok
    go_wp2_with (first | (refine wpList_buildD rfl 30 [] rfl [] rfl (docL dc0 zz0) built_zero ?_) | (refine wpList_store_doc rfl (.tmp 2) (.tmp 103) rfl b2 dc0 zz0 rfl rfl hS2.out rfl ?_; intro wz hwz; replace hwz := Box.mk hwz))
    obtain ⟨z1, z2, z3⟩ := dec_end hb2 hB1.out hbe.out hS2.out hrw.out hwz.out
    have zl := load_doc z1
    exact bodyPost_ret (v := .tuple #[docV dc0 zz0, .int .i64 3]) (results_doc Tryz.results13 rfl zl rfl) rfl ⟨⟨zz0, by rw [hdec.out], by rw [hdec.out]; exact z2⟩, z3⟩
end Go.Proofs.YtiblkfkeifnpaaaGreatDoor.Me
