/- QuorumCounts: the walk of the law. -/
import Derived.Test.YtkchaflijlmpgaaGreatDoorMQo
namespace Go.Proofs.YtkchaflijlmpgaaGreatDoor
open Go Go.RowKit

theorem whoE_len (ids : List ByteArray) (need : Int) (text : ByteArray) (sg : List (ByteArray × ByteArray)) : (whoE ids need text sg).length ≤ ids.length := by
  unfold whoE
  split
  · exact List.length_filter_le _ _
  · simp
/-- Below W, a row of texts beside; two. -/
def PT (W : World) (v : Value) (R : List ByteArray) : World → Prop := fun w => Below W.heap.size W w ∧ TxR W.heap.size w v R
theorem PT.st (W : World) (v : Value) (R : List ByteArray) : St (PC W) (fun w w' => Below w.heap.size w w') (PT W v R) := ⟨fun _ h => h.1, fun _ _ h hb => ⟨mono_bel h.1 hb (Nat.le_refl _), h.2.here hb⟩⟩
def PT2 (W : World) (v u : Value) (R : List ByteArray) : World → Prop := fun w => Below W.heap.size W w ∧ TxR W.heap.size w v R ∧ TxR W.heap.size w u R
theorem PT2.here {W w w' : World} {v u : Value} {R : List ByteArray} (h : PT2 W v u R w) (hb : Below w.heap.size w w') : PT2 W v u R w' := ⟨mono_bel h.1 hb (Nat.le_refl _), h.2.1.here hb, h.2.2.here hb⟩
theorem PT2.st (W : World) (v u : Value) (R : List ByteArray) : St (PC W) (fun w w' => Below w.heap.size w w') (PT2 W v u R) := ⟨fun _ h => h.1, fun _ _ h hb => h.here hb⟩
theorem PT2.cls {W w : World} {v u : Value} {R : List ByteArray} (h : PT2 W v u R w) {f : FuncId} {args : Array Value} {r : Value} (hC : Calls Tryz.prog f args w fun e w' => e = .returned r ∧ Below w.heap.size w w') : Calls Tryz.prog f args w fun e w' => e = .returned r ∧ PT2 W v u R w' :=
  hC.mono fun _ _ ⟨he, hb⟩ => ⟨he, h.here hb⟩
theorem RgAt.set {w0 w : World} {n b : Nat} {v : Value} {cs : List Value} (h : RgAt w0 w n v) (hb : Blk w b cs 24) (hg : w0.heap.size ≤ b) (j : Nat) (u : Value) : RgAt w0 (w.setCell ⟨b, j, none⟩ u) n v := by
  obtain ⟨kb, h1, h2⟩ := h.ex
  have hc : Pk.Chg (fun i => i = b) w (w.setCell ⟨b, j, none⟩ u) := (Pk.Chg.refl (fun i => i = b) w).setCell (p := ⟨b, j, none⟩) rfl u
  refine ⟨⟨kb, h1.chg hc fun k hk e => ?_, fun j' hj => (h2 j' hj).keep hc fun i t hi hS hty => ?_⟩, h.own, h.bel.setCell hg u⟩
  · have e : k = b := e
    exact h1.apart hb (by decide) (by rw [← e]; exact hk)
  · obtain rfl : i = b := hS
    have e : t = 24 := hty.inj ⟨_, hb⟩
    subst e
    decide
set_option maxHeartbeats 12800000 in
set_option maxRecDepth 100000 in
theorem law_counts (u : Value) (bs : List ByR) (n : Nat) (need : Int) (w : World) (hK : KIs w) (hn : n < 256) (hu : BysAt w u bs) :
    Calls Tryz.prog 4 #[.int .u8 (n : Int), .int .i64 need, u] w fun e w' => e = .returned (.bool true) ∧ Below w.heap.size w w' := by
  have hC := counts_any w hK
  have hKB := Box.mk hK
  have huB := Box.mk hu
  obtain ⟨L, hL⟩ : ∃ L, bs.length = L := ⟨_, rfl⟩
  obtain ⟨ua, cap, rfl, hLc, hcm, _, hh⟩ := hu.ex
  have hok := Box.mk hu.ok
  rw [hL] at huB hLc hh ⊢
  replace hh := Box.mk hh
  replace hL := Box.mk hL
  clear hK hu
  go_enter Tryz.func4, Tryz.ntmps4
  go_wp2_with fail
  refine hC.mono ?_
  clear hC
  rintro e w2 ⟨rfl, hb2⟩
  have hF := ring_any w2
  have hB2 := Box.mk hb2
  clear hb2
  go_wp2_with fail
  refine hF.mono ?_
  clear hF
  rintro e w3 ⟨v7, rfl, h3⟩
  have hB3 := Box.mk (mono_bel hB2.out h3.bel (Nat.le_refl _))
  have h3B := Box.mk h3
  have hF := set_any v7 n need w2 w3 h3 hn
  obtain ⟨kb0, hr0, _⟩ := h3.ex
  obtain ⟨a7, c7, rfl⟩ := hr0.shape
  clear hB2 h3 hr0
  go_wp2_with fail
  refine hF.mono ?_
  clear hF
  rintro e w4 ⟨hM, hb4⟩
  have hB4 := Box.mk (mono_bel hB3.out hb4 (Nat.le_refl _))
  have h4B := Box.mk (h3B.out.here hb4)
  have hrl := ris_length (setI n 5)
  have hsl := setI_length n 5
  rcases hM with ⟨_, v8, rfl, hT⟩ | ⟨_, rfl⟩
  · obtain ⟨ids8, hi8⟩ : ∃ l, ris (setI n 5) = l := ⟨_, rfl⟩
    rw [hi8] at hT hrl
    have hl8 : Box (ids8.length ≤ maxLen) := ⟨by unfold maxLen; omega⟩
    obtain ⟨a8, c8, rfl⟩ := hT.shape
    obtain ⟨l8, hl8e⟩ : ∃ l, ids8.length = l := ⟨_, rfl⟩
    rw [hl8e] at hT ⊢
    obtain ⟨W5, hW5⟩ : ∃ W5, w4.alloc (.cells #[.slice a8 l8 c8, .int .i64 need] 24) = W5 := ⟨_, rfl⟩
    have hb5 : Below w4.heap.size w4 W5 := by rw [← hW5]; exact bel_alloc _ _
    have hS5 : Box (Blk W5 w4.heap.size [.slice a8 l8 c8, .int .i64 need] 24) := ⟨by rw [← hW5]; exact Blk.new w4 _ _⟩
    have hP5 := Box.mk (hT.parts.here hb5)
    have hB5 := Box.mk (mono_bel hB4.out hb5 (Nat.le_refl _))
    have h5B := Box.mk (h4B.out.here hb5)
    obtain ⟨bS, hbS⟩ : ∃ b, w4.heap.size = b := ⟨_, rfl⟩
    rw [hbS] at hS5
    clear hT hrl hsl hB3 h3B hB4 h4B hb5 hb4 hl8e hi8
    have hF := signs7_any _ _ bs w2 W5 h5B.out (huB.out.here hB5.out)
    go_wp2_with fail
    refine hF.mono ?_
    clear hF
    rintro e W9 ⟨v10, sg, rfl, hG, hsl0⟩
    have hS := Box.mk (hS5.out.below hG.bel hS5.out.lt)
    have hP := Box.mk (hP5.out.here hG.bel)
    have hB9 := Box.mk (mono_bel hB5.out hG.bel (Nat.le_refl _))
    have hK9 := Box.mk (hKB.out.below hB9.out hKB.out.lt)
    obtain ⟨a10, c10, rfl⟩ := hG.row.shape
    have hSg := Box.mk hG.sigs
    obtain ⟨l10, hl10⟩ : ∃ l, sg.length = l := ⟨_, rfl⟩
    rw [hl10] at hSg ⊢
    have hsl : Box (sg.length ≤ maxLen) := ⟨by unfold maxLen; omega⟩
    clear hG hsl0 hl10 hS5 hP5 hB5 h5B
    have hL0 : 0 ≤ L := Nat.zero_le _
    rcases Nat.eq_zero_or_pos L with hLz | hLp
    · subst hLz
      have htx : Box ((⟨#[]⟩ : ByteArray).size ≤ 140737488351232) := ⟨by decide⟩
      clear hok hh
      obtain ⟨R8, hR⟩ : ∃ R, whoE ids8 need ⟨#[]⟩ sg = R := ⟨_, rfl⟩
      obtain ⟨E, hE⟩ : ∃ E, enB ids8 need ⟨#[]⟩ sg = E := ⟨_, rfl⟩
      have hWho : Box (∀ wa, Below W9.heap.size W9 wa → Calls Tryz.prog 17 #[.agg #[.slice a8 l8 c8, .int .i64 need], .string ⟨#[]⟩, .slice a10 l10 c10] wa fun e w' => WhoS wa.heap.size R8 e w' ∧ Below wa.heap.size wa w') := ⟨fun wa hb => by
        rw [← hR]; exact who_any _ ids8 need ⟨#[]⟩ _ sg wa (hP.out.here hb) hl8.out (hSg.out.here hb) hsl.out ((hK9.out).below hb hK9.out.lt) htx.out⟩
      have hRwho : Box (∀ wa, Below W9.heap.size W9 wa → Calls Tryz.prog 18 #[.agg #[.slice a8 l8 c8, .int .i64 need], .string ⟨#[]⟩, .slice a10 l10 c10] wa fun e w' => WhoS wa.heap.size R8 e w' ∧ Below wa.heap.size wa w') := ⟨fun wa hb => by
        rw [← hR]; exact rwho_any _ ids8 need ⟨#[]⟩ _ sg wa (hP.out.here hb) hl8.out (hSg.out.here hb) hsl.out htx.out⟩
      have hEn : Box (∀ wa, Below W9.heap.size W9 wa → Calls Tryz.prog 20 #[.agg #[.slice a8 l8 c8, .int .i64 need], .string ⟨#[]⟩, .slice a10 l10 c10] wa fun e w' => e = .returned (.bool (enB ids8 need ⟨#[]⟩ sg)) ∧ Below wa.heap.size wa w') := ⟨fun wa hb => enough_any _ ids8 need ⟨#[]⟩ _ sg wa (hP.out.here hb) hl8.out (hSg.out.here hb) hsl.out ((hK9.out).below hb hK9.out.lt) htx.out⟩
      have hRen : Box (∀ wa, Below W9.heap.size W9 wa → Calls Tryz.prog 21 #[.agg #[.slice a8 l8 c8, .int .i64 need], .string ⟨#[]⟩, .slice a10 l10 c10] wa fun e w' => e = .returned (.bool (enB ids8 need ⟨#[]⟩ sg)) ∧ Below wa.heap.size wa w') := ⟨fun wa hb => renough_any _ ids8 need ⟨#[]⟩ _ sg wa (hP.out.here hb) hl8.out (hSg.out.here hb) hsl.out htx.out⟩
      have hRck : Box (∀ wa, Below W9.heap.size W9 wa → Calls Tryz.prog 12 #[.agg #[.slice a8 l8 c8, .int .i64 need]] wa fun e w' => e = .returned (.int .i64 (chkE ids8 need)) ∧ Below wa.heap.size wa w') := ⟨fun wa hb => rcheck_any _ ids8 need wa (hP.out.here hb) hl8.out⟩
      have hRl : Box (R8.length ≤ maxLen) := ⟨by
        rw [← hR]
        exact Nat.le_trans (whoE_len ids8 need ⟨#[]⟩ sg) hl8.out⟩
      have hTT : Box (texB R8 R8 = true) := ⟨by simp [texB]⟩
      replace hR := Box.mk hR
      replace hE := Box.mk hE
      clear hP hSg hK9 htx hsl
      go_wp2_with fail
      refine region_steadyC (PC W9) (PC W9) (fun w w' => Below w.heap.size w w') rfl (dB W9) ?_
      refine anyS_calms [0, 1, 2, 4, 5, 6] 4 rfl (fun _ => Below.refl _ _) (PC.st W9) (by kernel_rfl) (by kernel_rfl) (by kernel_rfl) ?_
      simp [nth]
      try simp only [Act.put, List.setIfInBounds_toArray, List.set_cons_succ, List.set_cons_zero]
      repeat (go_big_quiet_step (first | exact fun _ => rfl | rfl))
      refine quiet_val rfl (.agg #[.slice a8 l8 c8, .int .i64 need]) (fun w' hw' => by have h3 := (hS.out.below hw' hS.out.lt).cell 0; have h4 := (hS.out.below hw' hS.out.lt).cell 1; simp only [List.getElem?_cons_zero, List.getElem?_cons_succ] at h3 h4; go_simp) ?_
      simp only [Act.put, List.setIfInBounds_toArray, List.set_cons_succ, List.set_cons_zero]
      repeat (go_big_quiet_step (first | exact fun _ => rfl | rfl))
      refine quiet_val rfl (.agg #[.slice a8 l8 c8, .int .i64 need]) (fun w' hw' => by have h3 := (hS.out.below hw' hS.out.lt).cell 0; have h4 := (hS.out.below hw' hS.out.lt).cell 1; simp only [List.getElem?_cons_zero, List.getElem?_cons_succ] at h3 h4; go_simp) ?_
      simp only [Act.put, List.setIfInBounds_toArray, List.set_cons_succ, List.set_cons_zero]
      repeat (go_big_quiet_step (first | exact fun _ => rfl | rfl))
      refine wpQuiet_nil ?_
      refine anyS_forced 3 (by kernel_rfl) rfl rfl (fun wa hWa K hK => ?_)
      go_simp
      refine (hWho.out wa hWa).mono ?_
      rintro e wb ⟨⟨v1, rfl, hT⟩, hbb⟩
      have hC := mono_bel hWa hbb (Nat.le_refl _)
      have hT1 := hT.base hWa.size
      clear hT
      obtain ⟨a1, c1, rfl⟩ := hT1.shape
      refine hK _ _ (PT W9 (.slice a1 R8.length c1) R8) (PT.st _ _ _) ⟨hC, hT1⟩ ?_
      clear hK K hWa hbb hC hT1 wa wb
      refine anyS_forced 7 (by kernel_rfl) rfl rfl (fun wa hWa K hK => ?_)
      go_simp
      refine (hRwho.out wa hWa.1).mono ?_
      rintro e wb ⟨⟨v2, rfl, hT⟩, hbb⟩
      have hC := mono_bel hWa.1 hbb (Nat.le_refl _)
      have hT1 := hT.base hWa.1.size
      have hT0 := hWa.2.here hbb
      clear hT
      obtain ⟨a2, c2, rfl⟩ := hT1.shape
      refine hK _ _ (PT2 W9 (.slice a1 R8.length c1) (.slice a2 R8.length c2) R8) (PT2.st _ _ _ _) ⟨hC, hT0, hT1⟩ ?_
      clear hK K hWa hbb hC hT1 hT0 wa wb
      refine anyS_calms [8, 9] 0 rfl (fun _ => Below.refl _ _) (PT2.st _ _ _ _) (by kernel_rfl) (by kernel_rfl) (by kernel_rfl) ?_
      simp [nth]
      try simp only [Act.put, List.setIfInBounds_toArray, List.set_cons_succ, List.set_cons_zero]
      repeat (go_big_quiet_step (first | exact fun _ => rfl | rfl))
      refine wpQuiet_nil ?_
      refine anyS_done (by kernel_rfl) (fun w11 hC11 => ?_)
      replace hC11 := Box.mk hC11
      go_wp2_with fail
      refine region_quiet (PT2 W9 (.slice a1 R8.length c1) (.slice a2 R8.length c2) R8) (by kernel_rfl) (by kernel_rfl) (hC11.out.here (dB w11)) ?_
      repeat (go_big_quiet_step (first | exact fun _ => rfl | rfl))
      refine quiet_call rfl (.bool true) (fun w' hw' => by rw [← hTT.out]; exact hw'.cls (same_any _ _ R8 R8 w' hw'.2.1.parts hw'.2.2.parts hRl.out)) (fun w' _ => by go_simp) ?_
      simp only [Act.put, List.setIfInBounds_toArray, List.set_cons_succ, List.set_cons_zero]
      repeat (go_big_quiet_step (first | exact fun _ => rfl | rfl))
      refine quiet_val rfl (.agg #[.slice a8 l8 c8, .int .i64 need]) (fun w' hw' => by have h3 := (hS.out.below hw'.1 hS.out.lt).cell 0; have h4 := (hS.out.below hw'.1 hS.out.lt).cell 1; simp only [List.getElem?_cons_zero, List.getElem?_cons_succ] at h3 h4; go_simp) ?_
      simp only [Act.put, List.setIfInBounds_toArray, List.set_cons_succ, List.set_cons_zero]
      repeat (go_big_quiet_step (first | exact fun _ => rfl | rfl))
      refine quiet_call rfl (.bool E) (fun w' hw' => by rw [← hE.out]; exact hw'.cls (hEn.out w' hw'.1)) (fun w' _ => by go_simp) ?_
      simp only [Act.put, List.setIfInBounds_toArray, List.set_cons_succ, List.set_cons_zero]
      repeat (go_big_quiet_step (first | exact fun _ => rfl | rfl))
      refine quiet_val rfl (.agg #[.slice a8 l8 c8, .int .i64 need]) (fun w' hw' => by have h3 := (hS.out.below hw'.1 hS.out.lt).cell 0; have h4 := (hS.out.below hw'.1 hS.out.lt).cell 1; simp only [List.getElem?_cons_zero, List.getElem?_cons_succ] at h3 h4; go_simp) ?_
      simp only [Act.put, List.setIfInBounds_toArray, List.set_cons_succ, List.set_cons_zero]
      repeat (go_big_quiet_step (first | exact fun _ => rfl | rfl))
      refine quiet_call rfl (.bool E) (fun w' hw' => by rw [← hE.out]; exact hw'.cls (hRen.out w' hw'.1)) (fun w' _ => by go_simp) ?_
      simp only [Act.put, List.setIfInBounds_toArray, List.set_cons_succ, List.set_cons_zero]
      repeat (go_big_quiet_step (first | exact fun _ => rfl | rfl))
      refine wpQuiet_nil ?_
      clear hC11
      intro w12 hC12
      replace hC12 := Box.mk hC12
      go_wp2_with fail
      cases hg : chkB ids8 need with
      | true =>
        have hE2 : Box (E = decide (need ≤ (R8.length : Int))) := ⟨by rw [← hE.out, ← hR.out, enB, whoE, hg]; simp⟩
        have hc0 : Box (chkE ids8 need = 0) := ⟨by rw [chkE, hg]; rfl⟩
        clear hg
        obtain ⟨rfl⟩ := hE2
        refine region_quiet (PT2 W9 (.slice a1 R8.length c1) (.slice a2 R8.length c2) R8) (by kernel_rfl) (by kernel_rfl) (hC12.out.here (dB w12)) ?_
        repeat (go_big_quiet_step (first | exact fun _ => rfl | rfl))
        refine quiet_val rfl (.agg #[.slice a8 l8 c8, .int .i64 need]) (fun w' hw' => by have h3 := (hS.out.below hw'.1 hS.out.lt).cell 0; have h4 := (hS.out.below hw'.1 hS.out.lt).cell 1; simp only [List.getElem?_cons_zero, List.getElem?_cons_succ] at h3 h4; go_simp) ?_
        simp only [Act.put, List.setIfInBounds_toArray, List.set_cons_succ, List.set_cons_zero]
        repeat (go_big_quiet_step (first | exact fun _ => rfl | rfl))
        refine quiet_call rfl (.bool (decide (need ≤ (R8.length : Int)))) (fun w' hw' => by rw [← hE.out]; exact hw'.cls (hEn.out w' hw'.1)) (fun w' _ => by go_simp) ?_
        simp only [Act.put, List.setIfInBounds_toArray, List.set_cons_succ, List.set_cons_zero]
        repeat (go_big_quiet_step (first | exact fun _ => rfl | rfl))
        refine quiet_val rfl (.agg #[.slice a8 l8 c8, .int .i64 need]) (fun w' hw' => by have h3 := (hS.out.below hw'.1 hS.out.lt).cell 0; have h4 := (hS.out.below hw'.1 hS.out.lt).cell 1; simp only [List.getElem?_cons_zero, List.getElem?_cons_succ] at h3 h4; go_simp) ?_
        simp only [Act.put, List.setIfInBounds_toArray, List.set_cons_succ, List.set_cons_zero]
        repeat (go_big_quiet_step (first | exact fun _ => rfl | rfl))
        refine quiet_call rfl (.int .i64 0) (fun w' hw' => by rw [← hc0.out]; exact hw'.cls (hRck.out w' hw'.1)) (fun w' _ => by go_simp) ?_
        simp only [Act.put, List.setIfInBounds_toArray, List.set_cons_succ, List.set_cons_zero]
        repeat (go_big_quiet_step (first | exact fun _ => rfl | rfl))
        refine quiet_val rfl (.int .i64 need) (fun w' hw' => by have h3 := (hS.out.below hw'.1 hS.out.lt).cell 1; simp only [List.getElem?_cons_zero, List.getElem?_cons_succ] at h3; go_simp) ?_
        simp only [Act.put, List.setIfInBounds_toArray, List.set_cons_succ, List.set_cons_zero]
        repeat (go_big_quiet_step (first | exact fun _ => rfl | rfl))
        refine wpQuiet_nil ?_
        clear hC12
        intro w14 hC14
        have hB14 := Box.mk (mono_bel hB9.out hC14.1 (Nat.le_refl _))
        clear hC14
        go_wp2_with fail
        go_ret
        exact ⟨by simp, hB14.out⟩
      | false =>
        have hE2 : Box (E = false) := ⟨by rw [← hE.out, enB, hg]; rfl⟩
        have hc0 : Box (chkE ids8 need = 1) := ⟨by rw [chkE, hg]; rfl⟩
        clear hg
        obtain ⟨rfl⟩ := hE2
        refine region_quiet (PT2 W9 (.slice a1 R8.length c1) (.slice a2 R8.length c2) R8) (by kernel_rfl) (by kernel_rfl) (hC12.out.here (dB w12)) ?_
        repeat (go_big_quiet_step (first | exact fun _ => rfl | rfl))
        refine quiet_val rfl (.agg #[.slice a8 l8 c8, .int .i64 need]) (fun w' hw' => by have h3 := (hS.out.below hw'.1 hS.out.lt).cell 0; have h4 := (hS.out.below hw'.1 hS.out.lt).cell 1; simp only [List.getElem?_cons_zero, List.getElem?_cons_succ] at h3 h4; go_simp) ?_
        simp only [Act.put, List.setIfInBounds_toArray, List.set_cons_succ, List.set_cons_zero]
        repeat (go_big_quiet_step (first | exact fun _ => rfl | rfl))
        refine quiet_call rfl (.bool false) (fun w' hw' => by rw [← hE.out]; exact hw'.cls (hEn.out w' hw'.1)) (fun w' _ => by go_simp) ?_
        simp only [Act.put, List.setIfInBounds_toArray, List.set_cons_succ, List.set_cons_zero]
        repeat (go_big_quiet_step (first | exact fun _ => rfl | rfl))
        refine quiet_val rfl (.agg #[.slice a8 l8 c8, .int .i64 need]) (fun w' hw' => by have h3 := (hS.out.below hw'.1 hS.out.lt).cell 0; have h4 := (hS.out.below hw'.1 hS.out.lt).cell 1; simp only [List.getElem?_cons_zero, List.getElem?_cons_succ] at h3 h4; go_simp) ?_
        simp only [Act.put, List.setIfInBounds_toArray, List.set_cons_succ, List.set_cons_zero]
        repeat (go_big_quiet_step (first | exact fun _ => rfl | rfl))
        refine quiet_call rfl (.int .i64 1) (fun w' hw' => by rw [← hc0.out]; exact hw'.cls (hRck.out w' hw'.1)) (fun w' _ => by go_simp) ?_
        simp only [Act.put, List.setIfInBounds_toArray, List.set_cons_succ, List.set_cons_zero]
        repeat (go_big_quiet_step (first | exact fun _ => rfl | rfl))
        refine wpQuiet_nil ?_
        clear hC12
        intro w14 hC14
        have hB14 := Box.mk (mono_bel hB9.out hC14.1 (Nat.le_refl _))
        clear hC14
        go_wp2_with fail
        go_ret
        exact ⟨by simp, hB14.out⟩
    · obtain ⟨blk, off, rfl, hbl, hc⟩ := hh.out hLp
      have hr : bs.getD 0 default ∈ bs := by
        have h1 : 0 < bs.length := by rw [hL.out]; exact hLp
        simp [List.getD, h1]
      have ht1 := (hok.out _ hr).2.2.2.2
      have f2 := (hB9.out.cell (p := ⟨blk, off + 0 * 5 + 2, none⟩) hbl).trans (hc 0 hLp 2 _ rfl)
      obtain ⟨text, hte⟩ : ∃ t, (bs.getD 0 default).t = t := ⟨_, rfl⟩
      rw [hte] at ht1 f2
      simp only [Nat.zero_mul, Nat.add_zero] at f2
      have htx := Box.mk ht1
      have hLi : (0 : Int) < (L : Int) := by omega
      unfold maxLen at hcm
      clear hok hh hr ht1 hte hbl hc
      obtain ⟨R8, hR⟩ : ∃ R, whoE ids8 need text sg = R := ⟨_, rfl⟩
      obtain ⟨E, hE⟩ : ∃ E, enB ids8 need text sg = E := ⟨_, rfl⟩
      have hWho : Box (∀ wa, Below W9.heap.size W9 wa → Calls Tryz.prog 17 #[.agg #[.slice a8 l8 c8, .int .i64 need], .string text, .slice a10 l10 c10] wa fun e w' => WhoS wa.heap.size R8 e w' ∧ Below wa.heap.size wa w') := ⟨fun wa hb => by
        rw [← hR]; exact who_any _ ids8 need text _ sg wa (hP.out.here hb) hl8.out (hSg.out.here hb) hsl.out ((hK9.out).below hb hK9.out.lt) htx.out⟩
      have hRwho : Box (∀ wa, Below W9.heap.size W9 wa → Calls Tryz.prog 18 #[.agg #[.slice a8 l8 c8, .int .i64 need], .string text, .slice a10 l10 c10] wa fun e w' => WhoS wa.heap.size R8 e w' ∧ Below wa.heap.size wa w') := ⟨fun wa hb => by
        rw [← hR]; exact rwho_any _ ids8 need text _ sg wa (hP.out.here hb) hl8.out (hSg.out.here hb) hsl.out htx.out⟩
      have hEn : Box (∀ wa, Below W9.heap.size W9 wa → Calls Tryz.prog 20 #[.agg #[.slice a8 l8 c8, .int .i64 need], .string text, .slice a10 l10 c10] wa fun e w' => e = .returned (.bool (enB ids8 need text sg)) ∧ Below wa.heap.size wa w') := ⟨fun wa hb => enough_any _ ids8 need text _ sg wa (hP.out.here hb) hl8.out (hSg.out.here hb) hsl.out ((hK9.out).below hb hK9.out.lt) htx.out⟩
      have hRen : Box (∀ wa, Below W9.heap.size W9 wa → Calls Tryz.prog 21 #[.agg #[.slice a8 l8 c8, .int .i64 need], .string text, .slice a10 l10 c10] wa fun e w' => e = .returned (.bool (enB ids8 need text sg)) ∧ Below wa.heap.size wa w') := ⟨fun wa hb => renough_any _ ids8 need text _ sg wa (hP.out.here hb) hl8.out (hSg.out.here hb) hsl.out htx.out⟩
      have hRck : Box (∀ wa, Below W9.heap.size W9 wa → Calls Tryz.prog 12 #[.agg #[.slice a8 l8 c8, .int .i64 need]] wa fun e w' => e = .returned (.int .i64 (chkE ids8 need)) ∧ Below wa.heap.size wa w') := ⟨fun wa hb => rcheck_any _ ids8 need wa (hP.out.here hb) hl8.out⟩
      have hRl : Box (R8.length ≤ maxLen) := ⟨by
        rw [← hR]
        exact Nat.le_trans (whoE_len ids8 need text sg) hl8.out⟩
      have hTT : Box (texB R8 R8 = true) := ⟨by simp [texB]⟩
      replace hR := Box.mk hR
      replace hE := Box.mk hE
      clear hP hSg hK9 htx hsl
      go_wp2_with fail
      refine region_steadyC (PC W9) (PC W9) (fun w w' => Below w.heap.size w w') rfl (dB W9) ?_
      refine anyS_calms [0, 1, 2, 4, 5, 6] 4 rfl (fun _ => Below.refl _ _) (PC.st W9) (by kernel_rfl) (by kernel_rfl) (by kernel_rfl) ?_
      simp [nth]
      try simp only [Act.put, List.setIfInBounds_toArray, List.set_cons_succ, List.set_cons_zero]
      repeat (go_big_quiet_step (first | exact fun _ => rfl | rfl))
      refine quiet_val rfl (.agg #[.slice a8 l8 c8, .int .i64 need]) (fun w' hw' => by have h3 := (hS.out.below hw' hS.out.lt).cell 0; have h4 := (hS.out.below hw' hS.out.lt).cell 1; simp only [List.getElem?_cons_zero, List.getElem?_cons_succ] at h3 h4; go_simp) ?_
      simp only [Act.put, List.setIfInBounds_toArray, List.set_cons_succ, List.set_cons_zero]
      repeat (go_big_quiet_step (first | exact fun _ => rfl | rfl))
      refine quiet_val rfl (.agg #[.slice a8 l8 c8, .int .i64 need]) (fun w' hw' => by have h3 := (hS.out.below hw' hS.out.lt).cell 0; have h4 := (hS.out.below hw' hS.out.lt).cell 1; simp only [List.getElem?_cons_zero, List.getElem?_cons_succ] at h3 h4; go_simp) ?_
      simp only [Act.put, List.setIfInBounds_toArray, List.set_cons_succ, List.set_cons_zero]
      repeat (go_big_quiet_step (first | exact fun _ => rfl | rfl))
      refine wpQuiet_nil ?_
      refine anyS_forced 3 (by kernel_rfl) rfl rfl (fun wa hWa K hK => ?_)
      go_simp
      refine (hWho.out wa hWa).mono ?_
      rintro e wb ⟨⟨v1, rfl, hT⟩, hbb⟩
      have hC := mono_bel hWa hbb (Nat.le_refl _)
      have hT1 := hT.base hWa.size
      clear hT
      obtain ⟨a1, c1, rfl⟩ := hT1.shape
      refine hK _ _ (PT W9 (.slice a1 R8.length c1) R8) (PT.st _ _ _) ⟨hC, hT1⟩ ?_
      clear hK K hWa hbb hC hT1 wa wb
      refine anyS_forced 7 (by kernel_rfl) rfl rfl (fun wa hWa K hK => ?_)
      go_simp
      refine (hRwho.out wa hWa.1).mono ?_
      rintro e wb ⟨⟨v2, rfl, hT⟩, hbb⟩
      have hC := mono_bel hWa.1 hbb (Nat.le_refl _)
      have hT1 := hT.base hWa.1.size
      have hT0 := hWa.2.here hbb
      clear hT
      obtain ⟨a2, c2, rfl⟩ := hT1.shape
      refine hK _ _ (PT2 W9 (.slice a1 R8.length c1) (.slice a2 R8.length c2) R8) (PT2.st _ _ _ _) ⟨hC, hT0, hT1⟩ ?_
      clear hK K hWa hbb hC hT1 hT0 wa wb
      refine anyS_calms [8, 9] 0 rfl (fun _ => Below.refl _ _) (PT2.st _ _ _ _) (by kernel_rfl) (by kernel_rfl) (by kernel_rfl) ?_
      simp [nth]
      try simp only [Act.put, List.setIfInBounds_toArray, List.set_cons_succ, List.set_cons_zero]
      repeat (go_big_quiet_step (first | exact fun _ => rfl | rfl))
      refine wpQuiet_nil ?_
      refine anyS_done (by kernel_rfl) (fun w11 hC11 => ?_)
      replace hC11 := Box.mk hC11
      go_wp2_with fail
      refine region_quiet (PT2 W9 (.slice a1 R8.length c1) (.slice a2 R8.length c2) R8) (by kernel_rfl) (by kernel_rfl) (hC11.out.here (dB w11)) ?_
      repeat (go_big_quiet_step (first | exact fun _ => rfl | rfl))
      refine quiet_call rfl (.bool true) (fun w' hw' => by rw [← hTT.out]; exact hw'.cls (same_any _ _ R8 R8 w' hw'.2.1.parts hw'.2.2.parts hRl.out)) (fun w' _ => by go_simp) ?_
      simp only [Act.put, List.setIfInBounds_toArray, List.set_cons_succ, List.set_cons_zero]
      repeat (go_big_quiet_step (first | exact fun _ => rfl | rfl))
      refine quiet_val rfl (.agg #[.slice a8 l8 c8, .int .i64 need]) (fun w' hw' => by have h3 := (hS.out.below hw'.1 hS.out.lt).cell 0; have h4 := (hS.out.below hw'.1 hS.out.lt).cell 1; simp only [List.getElem?_cons_zero, List.getElem?_cons_succ] at h3 h4; go_simp) ?_
      simp only [Act.put, List.setIfInBounds_toArray, List.set_cons_succ, List.set_cons_zero]
      repeat (go_big_quiet_step (first | exact fun _ => rfl | rfl))
      refine quiet_call rfl (.bool E) (fun w' hw' => by rw [← hE.out]; exact hw'.cls (hEn.out w' hw'.1)) (fun w' _ => by go_simp) ?_
      simp only [Act.put, List.setIfInBounds_toArray, List.set_cons_succ, List.set_cons_zero]
      repeat (go_big_quiet_step (first | exact fun _ => rfl | rfl))
      refine quiet_val rfl (.agg #[.slice a8 l8 c8, .int .i64 need]) (fun w' hw' => by have h3 := (hS.out.below hw'.1 hS.out.lt).cell 0; have h4 := (hS.out.below hw'.1 hS.out.lt).cell 1; simp only [List.getElem?_cons_zero, List.getElem?_cons_succ] at h3 h4; go_simp) ?_
      simp only [Act.put, List.setIfInBounds_toArray, List.set_cons_succ, List.set_cons_zero]
      repeat (go_big_quiet_step (first | exact fun _ => rfl | rfl))
      refine quiet_call rfl (.bool E) (fun w' hw' => by rw [← hE.out]; exact hw'.cls (hRen.out w' hw'.1)) (fun w' _ => by go_simp) ?_
      simp only [Act.put, List.setIfInBounds_toArray, List.set_cons_succ, List.set_cons_zero]
      repeat (go_big_quiet_step (first | exact fun _ => rfl | rfl))
      refine wpQuiet_nil ?_
      clear hC11
      intro w12 hC12
      replace hC12 := Box.mk hC12
      go_wp2_with fail
      cases hg : chkB ids8 need with
      | true =>
        have hE2 : Box (E = decide (need ≤ (R8.length : Int))) := ⟨by rw [← hE.out, ← hR.out, enB, whoE, hg]; simp⟩
        have hc0 : Box (chkE ids8 need = 0) := ⟨by rw [chkE, hg]; rfl⟩
        clear hg
        obtain ⟨rfl⟩ := hE2
        refine region_quiet (PT2 W9 (.slice a1 R8.length c1) (.slice a2 R8.length c2) R8) (by kernel_rfl) (by kernel_rfl) (hC12.out.here (dB w12)) ?_
        repeat (go_big_quiet_step (first | exact fun _ => rfl | rfl))
        refine quiet_val rfl (.agg #[.slice a8 l8 c8, .int .i64 need]) (fun w' hw' => by have h3 := (hS.out.below hw'.1 hS.out.lt).cell 0; have h4 := (hS.out.below hw'.1 hS.out.lt).cell 1; simp only [List.getElem?_cons_zero, List.getElem?_cons_succ] at h3 h4; go_simp) ?_
        simp only [Act.put, List.setIfInBounds_toArray, List.set_cons_succ, List.set_cons_zero]
        repeat (go_big_quiet_step (first | exact fun _ => rfl | rfl))
        refine quiet_call rfl (.bool (decide (need ≤ (R8.length : Int)))) (fun w' hw' => by rw [← hE.out]; exact hw'.cls (hEn.out w' hw'.1)) (fun w' _ => by go_simp) ?_
        simp only [Act.put, List.setIfInBounds_toArray, List.set_cons_succ, List.set_cons_zero]
        repeat (go_big_quiet_step (first | exact fun _ => rfl | rfl))
        refine quiet_val rfl (.agg #[.slice a8 l8 c8, .int .i64 need]) (fun w' hw' => by have h3 := (hS.out.below hw'.1 hS.out.lt).cell 0; have h4 := (hS.out.below hw'.1 hS.out.lt).cell 1; simp only [List.getElem?_cons_zero, List.getElem?_cons_succ] at h3 h4; go_simp) ?_
        simp only [Act.put, List.setIfInBounds_toArray, List.set_cons_succ, List.set_cons_zero]
        repeat (go_big_quiet_step (first | exact fun _ => rfl | rfl))
        refine quiet_call rfl (.int .i64 0) (fun w' hw' => by rw [← hc0.out]; exact hw'.cls (hRck.out w' hw'.1)) (fun w' _ => by go_simp) ?_
        simp only [Act.put, List.setIfInBounds_toArray, List.set_cons_succ, List.set_cons_zero]
        repeat (go_big_quiet_step (first | exact fun _ => rfl | rfl))
        refine quiet_val rfl (.int .i64 need) (fun w' hw' => by have h3 := (hS.out.below hw'.1 hS.out.lt).cell 1; simp only [List.getElem?_cons_zero, List.getElem?_cons_succ] at h3; go_simp) ?_
        simp only [Act.put, List.setIfInBounds_toArray, List.set_cons_succ, List.set_cons_zero]
        repeat (go_big_quiet_step (first | exact fun _ => rfl | rfl))
        refine wpQuiet_nil ?_
        clear hC12
        intro w14 hC14
        have hB14 := Box.mk (mono_bel hB9.out hC14.1 (Nat.le_refl _))
        clear hC14
        go_wp2_with fail
        go_ret
        exact ⟨by simp, hB14.out⟩
      | false =>
        have hE2 : Box (E = false) := ⟨by rw [← hE.out, enB, hg]; rfl⟩
        have hc0 : Box (chkE ids8 need = 1) := ⟨by rw [chkE, hg]; rfl⟩
        clear hg
        obtain ⟨rfl⟩ := hE2
        refine region_quiet (PT2 W9 (.slice a1 R8.length c1) (.slice a2 R8.length c2) R8) (by kernel_rfl) (by kernel_rfl) (hC12.out.here (dB w12)) ?_
        repeat (go_big_quiet_step (first | exact fun _ => rfl | rfl))
        refine quiet_val rfl (.agg #[.slice a8 l8 c8, .int .i64 need]) (fun w' hw' => by have h3 := (hS.out.below hw'.1 hS.out.lt).cell 0; have h4 := (hS.out.below hw'.1 hS.out.lt).cell 1; simp only [List.getElem?_cons_zero, List.getElem?_cons_succ] at h3 h4; go_simp) ?_
        simp only [Act.put, List.setIfInBounds_toArray, List.set_cons_succ, List.set_cons_zero]
        repeat (go_big_quiet_step (first | exact fun _ => rfl | rfl))
        refine quiet_call rfl (.bool false) (fun w' hw' => by rw [← hE.out]; exact hw'.cls (hEn.out w' hw'.1)) (fun w' _ => by go_simp) ?_
        simp only [Act.put, List.setIfInBounds_toArray, List.set_cons_succ, List.set_cons_zero]
        repeat (go_big_quiet_step (first | exact fun _ => rfl | rfl))
        refine quiet_val rfl (.agg #[.slice a8 l8 c8, .int .i64 need]) (fun w' hw' => by have h3 := (hS.out.below hw'.1 hS.out.lt).cell 0; have h4 := (hS.out.below hw'.1 hS.out.lt).cell 1; simp only [List.getElem?_cons_zero, List.getElem?_cons_succ] at h3 h4; go_simp) ?_
        simp only [Act.put, List.setIfInBounds_toArray, List.set_cons_succ, List.set_cons_zero]
        repeat (go_big_quiet_step (first | exact fun _ => rfl | rfl))
        refine quiet_call rfl (.int .i64 1) (fun w' hw' => by rw [← hc0.out]; exact hw'.cls (hRck.out w' hw'.1)) (fun w' _ => by go_simp) ?_
        simp only [Act.put, List.setIfInBounds_toArray, List.set_cons_succ, List.set_cons_zero]
        repeat (go_big_quiet_step (first | exact fun _ => rfl | rfl))
        refine wpQuiet_nil ?_
        clear hC12
        intro w14 hC14
        have hB14 := Box.mk (mono_bel hB9.out hC14.1 (Nat.le_refl _))
        clear hC14
        go_wp2_with fail
        go_ret
        exact ⟨by simp, hB14.out⟩
  · clear hrl hsl
    obtain ⟨g, rfl, _, kb, hkb⟩ := h4B.out.key (by omega)
    obtain ⟨y, hy⟩ : ∃ y, keyID (sd 0) 1 = y := ⟨_, rfl⟩
    obtain ⟨V5, hV5⟩ : ∃ V5, w4.alloc (.cells #[.slice none 0 0, .int .i64 0] 24) = V5 := ⟨_, rfl⟩
    have hb5 : Below w4.heap.size w4 V5 := by rw [← hV5]; exact bel_alloc _ _
    have hS5 : Box (Blk V5 w4.heap.size [.slice none 0 0, .int .i64 0] 24) := ⟨by rw [← hV5]; exact Blk.new w4 _ _⟩
    obtain ⟨_, hr4, _⟩ := h4B.out.ex
    have hg4 : g < w4.heap.size := hr4.lt g rfl
    have hB5 := Box.mk (mono_bel hB4.out hb5 (Nat.le_refl _))
    have h5B := Box.mk (h4B.out.here hb5)
    have hk0 : V5.cell? ⟨g, 0, none⟩ = some (.pointer (some ⟨kb 0, 0, none⟩)) := (hb5.cell (p := ⟨g, 0, none⟩) hg4).trans (hkb 0 (by omega)).1
    have hF := r6ID_any (kb 0) (sd 0) 1 0 V5 ((hkb 0 (by omega)).2.here hb5)
    rw [hy] at hF
    obtain ⟨bS, hbS⟩ : ∃ b, w4.heap.size = b := ⟨_, rfl⟩
    rw [hbS] at hS5
    have hbB : Box (w.heap.size ≤ bS ∧ w2.heap.size ≤ bS) := ⟨by rw [← hbS]; exact ⟨hB4.out.size, h4B.out.bel.size⟩⟩
    rw [← hV5] at hF hk0
    replace hV5 := Box.mk hV5
    clear hkb hr4 hg4 hb4 hb5 hB3 h3B hB4 h4B hy
    go_wp2_with fail
    refine hF.mono ?_
    rw [hV5.out]
    clear hF hk0 hV5
    rintro e w6 ⟨rfl, hb6⟩
    obtain ⟨V7, hV7⟩ : ∃ V7, w6.alloc (.cells #[.string y] 9) = V7 := ⟨_, rfl⟩
    have hb7 : Below w6.heap.size w6 V7 := by rw [← hV7]; exact bel_alloc _ _
    have hY7 : Blk V7 w6.heap.size [.string y] 9 := by rw [← hV7]; exact Blk.new w6 _ _
    have hS6 := hS5.out.below hb6 hS5.out.lt
    have hne : w6.heap.size ≠ bS := fun e => by have := hS6.lt; omega
    have hS7 := hS6.below hb7 hS6.lt
    have hB7 := mono_bel (mono_bel hB5.out hb6 (Nat.le_refl _)) hb7 (Nat.le_refl _)
    have h7B := (h5B.out.here hb6).here hb7
    obtain ⟨b6, hb6e⟩ : ∃ b, w6.heap.size = b := ⟨_, rfl⟩
    rw [hb6e] at hY7 hne
    have q0 := hS7.cell 0
    have q1 := hS7.cell 1
    have f0 := hS7.free 0
    have f1 := hS7.free 1
    simp only [List.getElem?_cons_zero, List.getElem?_cons_succ] at q0 q1
    obtain ⟨W5, hW5⟩ : ∃ W5, (V7.setCell ⟨bS, 0, none⟩ (.slice (some ⟨b6, 0, none⟩) 1 1)).setCell ⟨bS, 1, none⟩ (.int .i64 need) = W5 := ⟨_, rfl⟩
    have hY5 : Blk W5 b6 [.string y] 9 := by rw [← hW5]; exact (hY7.setCell_other _ _ hne).setCell_other _ _ hne
    have hP5 : Box (PartsAt W5 (.slice (some ⟨b6, 0, none⟩) 1 1) [y]) := ⟨⟨_, _, rfl, fun _ => ⟨b6, 0, rfl, hY5.lt, fun i hi => by
      obtain rfl : i = 0 := by simpa using hi
      exact hY5.cell 0⟩⟩⟩
    have hl8 : Box (([y] : List ByteArray).length ≤ maxLen) := ⟨by unfold maxLen; simp⟩
    have hbw : w.heap.size ≤ bS ∧ w2.heap.size ≤ bS := hbB.out
    have hB5' : Below w.heap.size w W5 := by rw [← hW5]; exact (hB7.setCell hbw.1 _).setCell hbw.1 _
    have h5B' : RgAt w2 W5 5 (.slice (some ⟨g, 0, none⟩) 5 c7) := by rw [← hW5]; exact (h7B.set hS7 hbw.2 0 _).set (hS7.setCell 0 _) hbw.2 1 _
    have hS5' : Blk W5 bS [.slice (some ⟨b6, 0, none⟩) 1 1, .int .i64 need] 24 := by rw [← hW5]; exact (hS7.setCell 0 _).setCell 1 _
    clear hY5 hY7 hS6 hne hS7 hS5 hB5 h5B hB7 h7B hb6 hb7 hbw hbB
    have hS5 := Box.mk hS5'
    have hB5 := Box.mk hB5'
    have h5B := Box.mk h5B'
    clear hS5' hB5' h5B'
    have hF := signs7_any _ _ bs w2 W5 h5B.out (huB.out.here hB5.out)
    go_wp2_with fail
    refine hF.mono ?_
    clear hF
    rintro e W9 ⟨v10, sg, rfl, hG, hsl0⟩
    have hS := Box.mk (hS5.out.below hG.bel hS5.out.lt)
    have hP := Box.mk (hP5.out.here hG.bel)
    have hB9 := Box.mk (mono_bel hB5.out hG.bel (Nat.le_refl _))
    have hK9 := Box.mk (hKB.out.below hB9.out hKB.out.lt)
    obtain ⟨a10, c10, rfl⟩ := hG.row.shape
    have hSg := Box.mk hG.sigs
    obtain ⟨l10, hl10⟩ : ∃ l, sg.length = l := ⟨_, rfl⟩
    rw [hl10] at hSg ⊢
    have hsl : Box (sg.length ≤ maxLen) := ⟨by unfold maxLen; omega⟩
    clear hG hsl0 hl10 hS5 hP5 hB5 h5B
    have hL0 : 0 ≤ L := Nat.zero_le _
    rcases Nat.eq_zero_or_pos L with hLz | hLp
    · subst hLz
      have htx : Box ((⟨#[]⟩ : ByteArray).size ≤ 140737488351232) := ⟨by decide⟩
      clear hok hh
      obtain ⟨R8, hR⟩ : ∃ R, whoE [y] need ⟨#[]⟩ sg = R := ⟨_, rfl⟩
      obtain ⟨E, hE⟩ : ∃ E, enB [y] need ⟨#[]⟩ sg = E := ⟨_, rfl⟩
      have hWho : Box (∀ wa, Below W9.heap.size W9 wa → Calls Tryz.prog 17 #[.agg #[.slice (some ⟨b6, 0, none⟩) 1 1, .int .i64 need], .string ⟨#[]⟩, .slice a10 l10 c10] wa fun e w' => WhoS wa.heap.size R8 e w' ∧ Below wa.heap.size wa w') := ⟨fun wa hb => by
        rw [← hR]; exact who_any _ [y] need ⟨#[]⟩ _ sg wa (hP.out.here hb) hl8.out (hSg.out.here hb) hsl.out ((hK9.out).below hb hK9.out.lt) htx.out⟩
      have hRwho : Box (∀ wa, Below W9.heap.size W9 wa → Calls Tryz.prog 18 #[.agg #[.slice (some ⟨b6, 0, none⟩) 1 1, .int .i64 need], .string ⟨#[]⟩, .slice a10 l10 c10] wa fun e w' => WhoS wa.heap.size R8 e w' ∧ Below wa.heap.size wa w') := ⟨fun wa hb => by
        rw [← hR]; exact rwho_any _ [y] need ⟨#[]⟩ _ sg wa (hP.out.here hb) hl8.out (hSg.out.here hb) hsl.out htx.out⟩
      have hEn : Box (∀ wa, Below W9.heap.size W9 wa → Calls Tryz.prog 20 #[.agg #[.slice (some ⟨b6, 0, none⟩) 1 1, .int .i64 need], .string ⟨#[]⟩, .slice a10 l10 c10] wa fun e w' => e = .returned (.bool (enB [y] need ⟨#[]⟩ sg)) ∧ Below wa.heap.size wa w') := ⟨fun wa hb => enough_any _ [y] need ⟨#[]⟩ _ sg wa (hP.out.here hb) hl8.out (hSg.out.here hb) hsl.out ((hK9.out).below hb hK9.out.lt) htx.out⟩
      have hRen : Box (∀ wa, Below W9.heap.size W9 wa → Calls Tryz.prog 21 #[.agg #[.slice (some ⟨b6, 0, none⟩) 1 1, .int .i64 need], .string ⟨#[]⟩, .slice a10 l10 c10] wa fun e w' => e = .returned (.bool (enB [y] need ⟨#[]⟩ sg)) ∧ Below wa.heap.size wa w') := ⟨fun wa hb => renough_any _ [y] need ⟨#[]⟩ _ sg wa (hP.out.here hb) hl8.out (hSg.out.here hb) hsl.out htx.out⟩
      have hRck : Box (∀ wa, Below W9.heap.size W9 wa → Calls Tryz.prog 12 #[.agg #[.slice (some ⟨b6, 0, none⟩) 1 1, .int .i64 need]] wa fun e w' => e = .returned (.int .i64 (chkE [y] need)) ∧ Below wa.heap.size wa w') := ⟨fun wa hb => rcheck_any _ [y] need wa (hP.out.here hb) hl8.out⟩
      have hRl : Box (R8.length ≤ maxLen) := ⟨by
        rw [← hR]
        exact Nat.le_trans (whoE_len [y] need ⟨#[]⟩ sg) hl8.out⟩
      have hTT : Box (texB R8 R8 = true) := ⟨by simp [texB]⟩
      replace hR := Box.mk hR
      replace hE := Box.mk hE
      clear hP hSg hK9 htx hsl
      go_wp2_with fail
      refine region_steadyC (PC W9) (PC W9) (fun w w' => Below w.heap.size w w') rfl (dB W9) ?_
      refine anyS_calms [0, 1, 2, 4, 5, 6] 4 rfl (fun _ => Below.refl _ _) (PC.st W9) (by kernel_rfl) (by kernel_rfl) (by kernel_rfl) ?_
      simp [nth]
      try simp only [Act.put, List.setIfInBounds_toArray, List.set_cons_succ, List.set_cons_zero]
      repeat (go_big_quiet_step (first | exact fun _ => rfl | rfl))
      refine quiet_val rfl (.agg #[.slice (some ⟨b6, 0, none⟩) 1 1, .int .i64 need]) (fun w' hw' => by have h3 := (hS.out.below hw' hS.out.lt).cell 0; have h4 := (hS.out.below hw' hS.out.lt).cell 1; simp only [List.getElem?_cons_zero, List.getElem?_cons_succ] at h3 h4; go_simp) ?_
      simp only [Act.put, List.setIfInBounds_toArray, List.set_cons_succ, List.set_cons_zero]
      repeat (go_big_quiet_step (first | exact fun _ => rfl | rfl))
      refine quiet_val rfl (.agg #[.slice (some ⟨b6, 0, none⟩) 1 1, .int .i64 need]) (fun w' hw' => by have h3 := (hS.out.below hw' hS.out.lt).cell 0; have h4 := (hS.out.below hw' hS.out.lt).cell 1; simp only [List.getElem?_cons_zero, List.getElem?_cons_succ] at h3 h4; go_simp) ?_
      simp only [Act.put, List.setIfInBounds_toArray, List.set_cons_succ, List.set_cons_zero]
      repeat (go_big_quiet_step (first | exact fun _ => rfl | rfl))
      refine wpQuiet_nil ?_
      refine anyS_forced 3 (by kernel_rfl) rfl rfl (fun wa hWa K hK => ?_)
      go_simp
      refine (hWho.out wa hWa).mono ?_
      rintro e wb ⟨⟨v1, rfl, hT⟩, hbb⟩
      have hC := mono_bel hWa hbb (Nat.le_refl _)
      have hT1 := hT.base hWa.size
      clear hT
      obtain ⟨a1, c1, rfl⟩ := hT1.shape
      refine hK _ _ (PT W9 (.slice a1 R8.length c1) R8) (PT.st _ _ _) ⟨hC, hT1⟩ ?_
      clear hK K hWa hbb hC hT1 wa wb
      refine anyS_forced 7 (by kernel_rfl) rfl rfl (fun wa hWa K hK => ?_)
      go_simp
      refine (hRwho.out wa hWa.1).mono ?_
      rintro e wb ⟨⟨v2, rfl, hT⟩, hbb⟩
      have hC := mono_bel hWa.1 hbb (Nat.le_refl _)
      have hT1 := hT.base hWa.1.size
      have hT0 := hWa.2.here hbb
      clear hT
      obtain ⟨a2, c2, rfl⟩ := hT1.shape
      refine hK _ _ (PT2 W9 (.slice a1 R8.length c1) (.slice a2 R8.length c2) R8) (PT2.st _ _ _ _) ⟨hC, hT0, hT1⟩ ?_
      clear hK K hWa hbb hC hT1 hT0 wa wb
      refine anyS_calms [8, 9] 0 rfl (fun _ => Below.refl _ _) (PT2.st _ _ _ _) (by kernel_rfl) (by kernel_rfl) (by kernel_rfl) ?_
      simp [nth]
      try simp only [Act.put, List.setIfInBounds_toArray, List.set_cons_succ, List.set_cons_zero]
      repeat (go_big_quiet_step (first | exact fun _ => rfl | rfl))
      refine wpQuiet_nil ?_
      refine anyS_done (by kernel_rfl) (fun w11 hC11 => ?_)
      replace hC11 := Box.mk hC11
      go_wp2_with fail
      refine region_quiet (PT2 W9 (.slice a1 R8.length c1) (.slice a2 R8.length c2) R8) (by kernel_rfl) (by kernel_rfl) (hC11.out.here (dB w11)) ?_
      repeat (go_big_quiet_step (first | exact fun _ => rfl | rfl))
      refine quiet_call rfl (.bool true) (fun w' hw' => by rw [← hTT.out]; exact hw'.cls (same_any _ _ R8 R8 w' hw'.2.1.parts hw'.2.2.parts hRl.out)) (fun w' _ => by go_simp) ?_
      simp only [Act.put, List.setIfInBounds_toArray, List.set_cons_succ, List.set_cons_zero]
      repeat (go_big_quiet_step (first | exact fun _ => rfl | rfl))
      refine quiet_val rfl (.agg #[.slice (some ⟨b6, 0, none⟩) 1 1, .int .i64 need]) (fun w' hw' => by have h3 := (hS.out.below hw'.1 hS.out.lt).cell 0; have h4 := (hS.out.below hw'.1 hS.out.lt).cell 1; simp only [List.getElem?_cons_zero, List.getElem?_cons_succ] at h3 h4; go_simp) ?_
      simp only [Act.put, List.setIfInBounds_toArray, List.set_cons_succ, List.set_cons_zero]
      repeat (go_big_quiet_step (first | exact fun _ => rfl | rfl))
      refine quiet_call rfl (.bool E) (fun w' hw' => by rw [← hE.out]; exact hw'.cls (hEn.out w' hw'.1)) (fun w' _ => by go_simp) ?_
      simp only [Act.put, List.setIfInBounds_toArray, List.set_cons_succ, List.set_cons_zero]
      repeat (go_big_quiet_step (first | exact fun _ => rfl | rfl))
      refine quiet_val rfl (.agg #[.slice (some ⟨b6, 0, none⟩) 1 1, .int .i64 need]) (fun w' hw' => by have h3 := (hS.out.below hw'.1 hS.out.lt).cell 0; have h4 := (hS.out.below hw'.1 hS.out.lt).cell 1; simp only [List.getElem?_cons_zero, List.getElem?_cons_succ] at h3 h4; go_simp) ?_
      simp only [Act.put, List.setIfInBounds_toArray, List.set_cons_succ, List.set_cons_zero]
      repeat (go_big_quiet_step (first | exact fun _ => rfl | rfl))
      refine quiet_call rfl (.bool E) (fun w' hw' => by rw [← hE.out]; exact hw'.cls (hRen.out w' hw'.1)) (fun w' _ => by go_simp) ?_
      simp only [Act.put, List.setIfInBounds_toArray, List.set_cons_succ, List.set_cons_zero]
      repeat (go_big_quiet_step (first | exact fun _ => rfl | rfl))
      refine wpQuiet_nil ?_
      clear hC11
      intro w12 hC12
      replace hC12 := Box.mk hC12
      go_wp2_with fail
      cases hg : chkB [y] need with
      | true =>
        have hE2 : Box (E = decide (need ≤ (R8.length : Int))) := ⟨by rw [← hE.out, ← hR.out, enB, whoE, hg]; simp⟩
        have hc0 : Box (chkE [y] need = 0) := ⟨by rw [chkE, hg]; rfl⟩
        clear hg
        obtain ⟨rfl⟩ := hE2
        refine region_quiet (PT2 W9 (.slice a1 R8.length c1) (.slice a2 R8.length c2) R8) (by kernel_rfl) (by kernel_rfl) (hC12.out.here (dB w12)) ?_
        repeat (go_big_quiet_step (first | exact fun _ => rfl | rfl))
        refine quiet_val rfl (.agg #[.slice (some ⟨b6, 0, none⟩) 1 1, .int .i64 need]) (fun w' hw' => by have h3 := (hS.out.below hw'.1 hS.out.lt).cell 0; have h4 := (hS.out.below hw'.1 hS.out.lt).cell 1; simp only [List.getElem?_cons_zero, List.getElem?_cons_succ] at h3 h4; go_simp) ?_
        simp only [Act.put, List.setIfInBounds_toArray, List.set_cons_succ, List.set_cons_zero]
        repeat (go_big_quiet_step (first | exact fun _ => rfl | rfl))
        refine quiet_call rfl (.bool (decide (need ≤ (R8.length : Int)))) (fun w' hw' => by rw [← hE.out]; exact hw'.cls (hEn.out w' hw'.1)) (fun w' _ => by go_simp) ?_
        simp only [Act.put, List.setIfInBounds_toArray, List.set_cons_succ, List.set_cons_zero]
        repeat (go_big_quiet_step (first | exact fun _ => rfl | rfl))
        refine quiet_val rfl (.agg #[.slice (some ⟨b6, 0, none⟩) 1 1, .int .i64 need]) (fun w' hw' => by have h3 := (hS.out.below hw'.1 hS.out.lt).cell 0; have h4 := (hS.out.below hw'.1 hS.out.lt).cell 1; simp only [List.getElem?_cons_zero, List.getElem?_cons_succ] at h3 h4; go_simp) ?_
        simp only [Act.put, List.setIfInBounds_toArray, List.set_cons_succ, List.set_cons_zero]
        repeat (go_big_quiet_step (first | exact fun _ => rfl | rfl))
        refine quiet_call rfl (.int .i64 0) (fun w' hw' => by rw [← hc0.out]; exact hw'.cls (hRck.out w' hw'.1)) (fun w' _ => by go_simp) ?_
        simp only [Act.put, List.setIfInBounds_toArray, List.set_cons_succ, List.set_cons_zero]
        repeat (go_big_quiet_step (first | exact fun _ => rfl | rfl))
        refine quiet_val rfl (.int .i64 need) (fun w' hw' => by have h3 := (hS.out.below hw'.1 hS.out.lt).cell 1; simp only [List.getElem?_cons_zero, List.getElem?_cons_succ] at h3; go_simp) ?_
        simp only [Act.put, List.setIfInBounds_toArray, List.set_cons_succ, List.set_cons_zero]
        repeat (go_big_quiet_step (first | exact fun _ => rfl | rfl))
        refine wpQuiet_nil ?_
        clear hC12
        intro w14 hC14
        have hB14 := Box.mk (mono_bel hB9.out hC14.1 (Nat.le_refl _))
        clear hC14
        go_wp2_with fail
        go_ret
        exact ⟨by simp, hB14.out⟩
      | false =>
        have hE2 : Box (E = false) := ⟨by rw [← hE.out, enB, hg]; rfl⟩
        have hc0 : Box (chkE [y] need = 1) := ⟨by rw [chkE, hg]; rfl⟩
        clear hg
        obtain ⟨rfl⟩ := hE2
        refine region_quiet (PT2 W9 (.slice a1 R8.length c1) (.slice a2 R8.length c2) R8) (by kernel_rfl) (by kernel_rfl) (hC12.out.here (dB w12)) ?_
        repeat (go_big_quiet_step (first | exact fun _ => rfl | rfl))
        refine quiet_val rfl (.agg #[.slice (some ⟨b6, 0, none⟩) 1 1, .int .i64 need]) (fun w' hw' => by have h3 := (hS.out.below hw'.1 hS.out.lt).cell 0; have h4 := (hS.out.below hw'.1 hS.out.lt).cell 1; simp only [List.getElem?_cons_zero, List.getElem?_cons_succ] at h3 h4; go_simp) ?_
        simp only [Act.put, List.setIfInBounds_toArray, List.set_cons_succ, List.set_cons_zero]
        repeat (go_big_quiet_step (first | exact fun _ => rfl | rfl))
        refine quiet_call rfl (.bool false) (fun w' hw' => by rw [← hE.out]; exact hw'.cls (hEn.out w' hw'.1)) (fun w' _ => by go_simp) ?_
        simp only [Act.put, List.setIfInBounds_toArray, List.set_cons_succ, List.set_cons_zero]
        repeat (go_big_quiet_step (first | exact fun _ => rfl | rfl))
        refine quiet_val rfl (.agg #[.slice (some ⟨b6, 0, none⟩) 1 1, .int .i64 need]) (fun w' hw' => by have h3 := (hS.out.below hw'.1 hS.out.lt).cell 0; have h4 := (hS.out.below hw'.1 hS.out.lt).cell 1; simp only [List.getElem?_cons_zero, List.getElem?_cons_succ] at h3 h4; go_simp) ?_
        simp only [Act.put, List.setIfInBounds_toArray, List.set_cons_succ, List.set_cons_zero]
        repeat (go_big_quiet_step (first | exact fun _ => rfl | rfl))
        refine quiet_call rfl (.int .i64 1) (fun w' hw' => by rw [← hc0.out]; exact hw'.cls (hRck.out w' hw'.1)) (fun w' _ => by go_simp) ?_
        simp only [Act.put, List.setIfInBounds_toArray, List.set_cons_succ, List.set_cons_zero]
        repeat (go_big_quiet_step (first | exact fun _ => rfl | rfl))
        refine wpQuiet_nil ?_
        clear hC12
        intro w14 hC14
        have hB14 := Box.mk (mono_bel hB9.out hC14.1 (Nat.le_refl _))
        clear hC14
        go_wp2_with fail
        go_ret
        exact ⟨by simp, hB14.out⟩
    · obtain ⟨blk, off, rfl, hbl, hc⟩ := hh.out hLp
      have hr : bs.getD 0 default ∈ bs := by
        have h1 : 0 < bs.length := by rw [hL.out]; exact hLp
        simp [List.getD, h1]
      have ht1 := (hok.out _ hr).2.2.2.2
      have f2 := (hB9.out.cell (p := ⟨blk, off + 0 * 5 + 2, none⟩) hbl).trans (hc 0 hLp 2 _ rfl)
      obtain ⟨text, hte⟩ : ∃ t, (bs.getD 0 default).t = t := ⟨_, rfl⟩
      rw [hte] at ht1 f2
      simp only [Nat.zero_mul, Nat.add_zero] at f2
      have htx := Box.mk ht1
      have hLi : (0 : Int) < (L : Int) := by omega
      unfold maxLen at hcm
      clear hok hh hr ht1 hte hbl hc
      obtain ⟨R8, hR⟩ : ∃ R, whoE [y] need text sg = R := ⟨_, rfl⟩
      obtain ⟨E, hE⟩ : ∃ E, enB [y] need text sg = E := ⟨_, rfl⟩
      have hWho : Box (∀ wa, Below W9.heap.size W9 wa → Calls Tryz.prog 17 #[.agg #[.slice (some ⟨b6, 0, none⟩) 1 1, .int .i64 need], .string text, .slice a10 l10 c10] wa fun e w' => WhoS wa.heap.size R8 e w' ∧ Below wa.heap.size wa w') := ⟨fun wa hb => by
        rw [← hR]; exact who_any _ [y] need text _ sg wa (hP.out.here hb) hl8.out (hSg.out.here hb) hsl.out ((hK9.out).below hb hK9.out.lt) htx.out⟩
      have hRwho : Box (∀ wa, Below W9.heap.size W9 wa → Calls Tryz.prog 18 #[.agg #[.slice (some ⟨b6, 0, none⟩) 1 1, .int .i64 need], .string text, .slice a10 l10 c10] wa fun e w' => WhoS wa.heap.size R8 e w' ∧ Below wa.heap.size wa w') := ⟨fun wa hb => by
        rw [← hR]; exact rwho_any _ [y] need text _ sg wa (hP.out.here hb) hl8.out (hSg.out.here hb) hsl.out htx.out⟩
      have hEn : Box (∀ wa, Below W9.heap.size W9 wa → Calls Tryz.prog 20 #[.agg #[.slice (some ⟨b6, 0, none⟩) 1 1, .int .i64 need], .string text, .slice a10 l10 c10] wa fun e w' => e = .returned (.bool (enB [y] need text sg)) ∧ Below wa.heap.size wa w') := ⟨fun wa hb => enough_any _ [y] need text _ sg wa (hP.out.here hb) hl8.out (hSg.out.here hb) hsl.out ((hK9.out).below hb hK9.out.lt) htx.out⟩
      have hRen : Box (∀ wa, Below W9.heap.size W9 wa → Calls Tryz.prog 21 #[.agg #[.slice (some ⟨b6, 0, none⟩) 1 1, .int .i64 need], .string text, .slice a10 l10 c10] wa fun e w' => e = .returned (.bool (enB [y] need text sg)) ∧ Below wa.heap.size wa w') := ⟨fun wa hb => renough_any _ [y] need text _ sg wa (hP.out.here hb) hl8.out (hSg.out.here hb) hsl.out htx.out⟩
      have hRck : Box (∀ wa, Below W9.heap.size W9 wa → Calls Tryz.prog 12 #[.agg #[.slice (some ⟨b6, 0, none⟩) 1 1, .int .i64 need]] wa fun e w' => e = .returned (.int .i64 (chkE [y] need)) ∧ Below wa.heap.size wa w') := ⟨fun wa hb => rcheck_any _ [y] need wa (hP.out.here hb) hl8.out⟩
      have hRl : Box (R8.length ≤ maxLen) := ⟨by
        rw [← hR]
        exact Nat.le_trans (whoE_len [y] need text sg) hl8.out⟩
      have hTT : Box (texB R8 R8 = true) := ⟨by simp [texB]⟩
      replace hR := Box.mk hR
      replace hE := Box.mk hE
      clear hP hSg hK9 htx hsl
      go_wp2_with fail
      refine region_steadyC (PC W9) (PC W9) (fun w w' => Below w.heap.size w w') rfl (dB W9) ?_
      refine anyS_calms [0, 1, 2, 4, 5, 6] 4 rfl (fun _ => Below.refl _ _) (PC.st W9) (by kernel_rfl) (by kernel_rfl) (by kernel_rfl) ?_
      simp [nth]
      try simp only [Act.put, List.setIfInBounds_toArray, List.set_cons_succ, List.set_cons_zero]
      repeat (go_big_quiet_step (first | exact fun _ => rfl | rfl))
      refine quiet_val rfl (.agg #[.slice (some ⟨b6, 0, none⟩) 1 1, .int .i64 need]) (fun w' hw' => by have h3 := (hS.out.below hw' hS.out.lt).cell 0; have h4 := (hS.out.below hw' hS.out.lt).cell 1; simp only [List.getElem?_cons_zero, List.getElem?_cons_succ] at h3 h4; go_simp) ?_
      simp only [Act.put, List.setIfInBounds_toArray, List.set_cons_succ, List.set_cons_zero]
      repeat (go_big_quiet_step (first | exact fun _ => rfl | rfl))
      refine quiet_val rfl (.agg #[.slice (some ⟨b6, 0, none⟩) 1 1, .int .i64 need]) (fun w' hw' => by have h3 := (hS.out.below hw' hS.out.lt).cell 0; have h4 := (hS.out.below hw' hS.out.lt).cell 1; simp only [List.getElem?_cons_zero, List.getElem?_cons_succ] at h3 h4; go_simp) ?_
      simp only [Act.put, List.setIfInBounds_toArray, List.set_cons_succ, List.set_cons_zero]
      repeat (go_big_quiet_step (first | exact fun _ => rfl | rfl))
      refine wpQuiet_nil ?_
      refine anyS_forced 3 (by kernel_rfl) rfl rfl (fun wa hWa K hK => ?_)
      go_simp
      refine (hWho.out wa hWa).mono ?_
      rintro e wb ⟨⟨v1, rfl, hT⟩, hbb⟩
      have hC := mono_bel hWa hbb (Nat.le_refl _)
      have hT1 := hT.base hWa.size
      clear hT
      obtain ⟨a1, c1, rfl⟩ := hT1.shape
      refine hK _ _ (PT W9 (.slice a1 R8.length c1) R8) (PT.st _ _ _) ⟨hC, hT1⟩ ?_
      clear hK K hWa hbb hC hT1 wa wb
      refine anyS_forced 7 (by kernel_rfl) rfl rfl (fun wa hWa K hK => ?_)
      go_simp
      refine (hRwho.out wa hWa.1).mono ?_
      rintro e wb ⟨⟨v2, rfl, hT⟩, hbb⟩
      have hC := mono_bel hWa.1 hbb (Nat.le_refl _)
      have hT1 := hT.base hWa.1.size
      have hT0 := hWa.2.here hbb
      clear hT
      obtain ⟨a2, c2, rfl⟩ := hT1.shape
      refine hK _ _ (PT2 W9 (.slice a1 R8.length c1) (.slice a2 R8.length c2) R8) (PT2.st _ _ _ _) ⟨hC, hT0, hT1⟩ ?_
      clear hK K hWa hbb hC hT1 hT0 wa wb
      refine anyS_calms [8, 9] 0 rfl (fun _ => Below.refl _ _) (PT2.st _ _ _ _) (by kernel_rfl) (by kernel_rfl) (by kernel_rfl) ?_
      simp [nth]
      try simp only [Act.put, List.setIfInBounds_toArray, List.set_cons_succ, List.set_cons_zero]
      repeat (go_big_quiet_step (first | exact fun _ => rfl | rfl))
      refine wpQuiet_nil ?_
      refine anyS_done (by kernel_rfl) (fun w11 hC11 => ?_)
      replace hC11 := Box.mk hC11
      go_wp2_with fail
      refine region_quiet (PT2 W9 (.slice a1 R8.length c1) (.slice a2 R8.length c2) R8) (by kernel_rfl) (by kernel_rfl) (hC11.out.here (dB w11)) ?_
      repeat (go_big_quiet_step (first | exact fun _ => rfl | rfl))
      refine quiet_call rfl (.bool true) (fun w' hw' => by rw [← hTT.out]; exact hw'.cls (same_any _ _ R8 R8 w' hw'.2.1.parts hw'.2.2.parts hRl.out)) (fun w' _ => by go_simp) ?_
      simp only [Act.put, List.setIfInBounds_toArray, List.set_cons_succ, List.set_cons_zero]
      repeat (go_big_quiet_step (first | exact fun _ => rfl | rfl))
      refine quiet_val rfl (.agg #[.slice (some ⟨b6, 0, none⟩) 1 1, .int .i64 need]) (fun w' hw' => by have h3 := (hS.out.below hw'.1 hS.out.lt).cell 0; have h4 := (hS.out.below hw'.1 hS.out.lt).cell 1; simp only [List.getElem?_cons_zero, List.getElem?_cons_succ] at h3 h4; go_simp) ?_
      simp only [Act.put, List.setIfInBounds_toArray, List.set_cons_succ, List.set_cons_zero]
      repeat (go_big_quiet_step (first | exact fun _ => rfl | rfl))
      refine quiet_call rfl (.bool E) (fun w' hw' => by rw [← hE.out]; exact hw'.cls (hEn.out w' hw'.1)) (fun w' _ => by go_simp) ?_
      simp only [Act.put, List.setIfInBounds_toArray, List.set_cons_succ, List.set_cons_zero]
      repeat (go_big_quiet_step (first | exact fun _ => rfl | rfl))
      refine quiet_val rfl (.agg #[.slice (some ⟨b6, 0, none⟩) 1 1, .int .i64 need]) (fun w' hw' => by have h3 := (hS.out.below hw'.1 hS.out.lt).cell 0; have h4 := (hS.out.below hw'.1 hS.out.lt).cell 1; simp only [List.getElem?_cons_zero, List.getElem?_cons_succ] at h3 h4; go_simp) ?_
      simp only [Act.put, List.setIfInBounds_toArray, List.set_cons_succ, List.set_cons_zero]
      repeat (go_big_quiet_step (first | exact fun _ => rfl | rfl))
      refine quiet_call rfl (.bool E) (fun w' hw' => by rw [← hE.out]; exact hw'.cls (hRen.out w' hw'.1)) (fun w' _ => by go_simp) ?_
      simp only [Act.put, List.setIfInBounds_toArray, List.set_cons_succ, List.set_cons_zero]
      repeat (go_big_quiet_step (first | exact fun _ => rfl | rfl))
      refine wpQuiet_nil ?_
      clear hC11
      intro w12 hC12
      replace hC12 := Box.mk hC12
      go_wp2_with fail
      cases hg : chkB [y] need with
      | true =>
        have hE2 : Box (E = decide (need ≤ (R8.length : Int))) := ⟨by rw [← hE.out, ← hR.out, enB, whoE, hg]; simp⟩
        have hc0 : Box (chkE [y] need = 0) := ⟨by rw [chkE, hg]; rfl⟩
        clear hg
        obtain ⟨rfl⟩ := hE2
        refine region_quiet (PT2 W9 (.slice a1 R8.length c1) (.slice a2 R8.length c2) R8) (by kernel_rfl) (by kernel_rfl) (hC12.out.here (dB w12)) ?_
        repeat (go_big_quiet_step (first | exact fun _ => rfl | rfl))
        refine quiet_val rfl (.agg #[.slice (some ⟨b6, 0, none⟩) 1 1, .int .i64 need]) (fun w' hw' => by have h3 := (hS.out.below hw'.1 hS.out.lt).cell 0; have h4 := (hS.out.below hw'.1 hS.out.lt).cell 1; simp only [List.getElem?_cons_zero, List.getElem?_cons_succ] at h3 h4; go_simp) ?_
        simp only [Act.put, List.setIfInBounds_toArray, List.set_cons_succ, List.set_cons_zero]
        repeat (go_big_quiet_step (first | exact fun _ => rfl | rfl))
        refine quiet_call rfl (.bool (decide (need ≤ (R8.length : Int)))) (fun w' hw' => by rw [← hE.out]; exact hw'.cls (hEn.out w' hw'.1)) (fun w' _ => by go_simp) ?_
        simp only [Act.put, List.setIfInBounds_toArray, List.set_cons_succ, List.set_cons_zero]
        repeat (go_big_quiet_step (first | exact fun _ => rfl | rfl))
        refine quiet_val rfl (.agg #[.slice (some ⟨b6, 0, none⟩) 1 1, .int .i64 need]) (fun w' hw' => by have h3 := (hS.out.below hw'.1 hS.out.lt).cell 0; have h4 := (hS.out.below hw'.1 hS.out.lt).cell 1; simp only [List.getElem?_cons_zero, List.getElem?_cons_succ] at h3 h4; go_simp) ?_
        simp only [Act.put, List.setIfInBounds_toArray, List.set_cons_succ, List.set_cons_zero]
        repeat (go_big_quiet_step (first | exact fun _ => rfl | rfl))
        refine quiet_call rfl (.int .i64 0) (fun w' hw' => by rw [← hc0.out]; exact hw'.cls (hRck.out w' hw'.1)) (fun w' _ => by go_simp) ?_
        simp only [Act.put, List.setIfInBounds_toArray, List.set_cons_succ, List.set_cons_zero]
        repeat (go_big_quiet_step (first | exact fun _ => rfl | rfl))
        refine quiet_val rfl (.int .i64 need) (fun w' hw' => by have h3 := (hS.out.below hw'.1 hS.out.lt).cell 1; simp only [List.getElem?_cons_zero, List.getElem?_cons_succ] at h3; go_simp) ?_
        simp only [Act.put, List.setIfInBounds_toArray, List.set_cons_succ, List.set_cons_zero]
        repeat (go_big_quiet_step (first | exact fun _ => rfl | rfl))
        refine wpQuiet_nil ?_
        clear hC12
        intro w14 hC14
        have hB14 := Box.mk (mono_bel hB9.out hC14.1 (Nat.le_refl _))
        clear hC14
        go_wp2_with fail
        go_ret
        exact ⟨by simp, hB14.out⟩
      | false =>
        have hE2 : Box (E = false) := ⟨by rw [← hE.out, enB, hg]; rfl⟩
        have hc0 : Box (chkE [y] need = 1) := ⟨by rw [chkE, hg]; rfl⟩
        clear hg
        obtain ⟨rfl⟩ := hE2
        refine region_quiet (PT2 W9 (.slice a1 R8.length c1) (.slice a2 R8.length c2) R8) (by kernel_rfl) (by kernel_rfl) (hC12.out.here (dB w12)) ?_
        repeat (go_big_quiet_step (first | exact fun _ => rfl | rfl))
        refine quiet_val rfl (.agg #[.slice (some ⟨b6, 0, none⟩) 1 1, .int .i64 need]) (fun w' hw' => by have h3 := (hS.out.below hw'.1 hS.out.lt).cell 0; have h4 := (hS.out.below hw'.1 hS.out.lt).cell 1; simp only [List.getElem?_cons_zero, List.getElem?_cons_succ] at h3 h4; go_simp) ?_
        simp only [Act.put, List.setIfInBounds_toArray, List.set_cons_succ, List.set_cons_zero]
        repeat (go_big_quiet_step (first | exact fun _ => rfl | rfl))
        refine quiet_call rfl (.bool false) (fun w' hw' => by rw [← hE.out]; exact hw'.cls (hEn.out w' hw'.1)) (fun w' _ => by go_simp) ?_
        simp only [Act.put, List.setIfInBounds_toArray, List.set_cons_succ, List.set_cons_zero]
        repeat (go_big_quiet_step (first | exact fun _ => rfl | rfl))
        refine quiet_val rfl (.agg #[.slice (some ⟨b6, 0, none⟩) 1 1, .int .i64 need]) (fun w' hw' => by have h3 := (hS.out.below hw'.1 hS.out.lt).cell 0; have h4 := (hS.out.below hw'.1 hS.out.lt).cell 1; simp only [List.getElem?_cons_zero, List.getElem?_cons_succ] at h3 h4; go_simp) ?_
        simp only [Act.put, List.setIfInBounds_toArray, List.set_cons_succ, List.set_cons_zero]
        repeat (go_big_quiet_step (first | exact fun _ => rfl | rfl))
        refine quiet_call rfl (.int .i64 1) (fun w' hw' => by rw [← hc0.out]; exact hw'.cls (hRck.out w' hw'.1)) (fun w' _ => by go_simp) ?_
        simp only [Act.put, List.setIfInBounds_toArray, List.set_cons_succ, List.set_cons_zero]
        repeat (go_big_quiet_step (first | exact fun _ => rfl | rfl))
        refine wpQuiet_nil ?_
        clear hC12
        intro w14 hC14
        have hB14 := Box.mk (mono_bel hB9.out hC14.1 (Nat.le_refl _))
        clear hC14
        go_wp2_with fail
        go_ret
        exact ⟨by simp, hB14.out⟩
end Go.Proofs.YtkchaflijlmpgaaGreatDoor
