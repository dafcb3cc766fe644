/- meta: MetaSeals walked. -/
import Derived.Test.YtiblkfkeifnpaaaGreatDoorZnc
set_option linter.all false
namespace Go.Proofs.YtiblkfkeifnpaaaGreatDoor.Me
open Go Go.RowKit Go.Proofs.YtiblkfkeifnpaaaGreatDoor Go.Proofs.YtiblkfkeifnpaaaGreatDoor.Nt
set_option maxHeartbeats 3200000 in
set_option maxRecDepth 100000 in
theorem seal_n (body : ByteArray) (a : Option Addr) (n c : Nat) (sg : List SigM) (w : World) (hv : SigsAt w (.slice a n c) sg) (hn : sg.length = n) :
    Calls Tryz.prog 17 #[.string body, .slice a n c] w fun e w' => e = .returned (sealR body sg) ∧ Below w.heap.size w w' := by
  by_cases hm : n ≤ 4611686018427387903
  · exact seal_any body a n c sg w hv hn hm
  have hB0 : Box (Below w.heap.size w w) := ⟨Below.refl _ _⟩
  rw [seal_many (by omega)]
  have h16' : decide ((n : Int) > 16) = true := decide_eq_true (by omega)
  clear hv hn hm
  go_enter Tryz.func17, Tryz.ntmps17
  go_wp2_with fail
  go_returns
  exact ⟨rfl, hB0.out⟩
set_option maxHeartbeats 3200000 in
set_option maxRecDepth 100000 in
theorem rseal_n (body : ByteArray) (a : Option Addr) (n c : Nat) (sg : List SigM) (w : World) (hv : SigsAt w (.slice a n c) sg) (hn : sg.length = n) :
    Calls Tryz.prog 18 #[.string body, .slice a n c] w fun e w' => e = .returned (sealR body sg) ∧ Below w.heap.size w w' := by
  by_cases hm : n ≤ 4611686018427387903
  · exact rseal_any body a n c sg w hv hn hm
  have hB0 : Box (Below w.heap.size w w) := ⟨Below.refl _ _⟩
  rw [seal_many (by omega)]
  have h16' : decide ((n : Int) > 16) = true := decide_eq_true (by omega)
  clear hv hn hm
  go_enter Tryz.func18, Tryz.ntmps18
  go_wp2_with fail
  go_returns
  exact ⟨rfl, hB0.out⟩
theorem laySe_len {body : ByteArray} {sg : List SigM} (h : sealB body sg = true) : (laySe (body, sg)).length ≤ 100000 := by
  simp only [sealB, Bool.and_eq_true, decide_eq_true_iff, List.all_eq_true] at h
  have f : ∀ l : List SigM, (∀ x ∈ l, x.1.size = 32 ∧ x.2.size ≤ 1024) → (l.flatMap fun x => x.1.data.toList ++ Pk.textL x.2).length ≤ 1058 * l.length := by
    intro l hl
    induction l with
    | nil => exact Nat.zero_le _
    | cons x l ih =>
      have k := hl x (List.mem_cons_self ..)
      have := ih fun y hy => hl y (List.mem_cons_of_mem _ hy)
      rw [List.flatMap_cons, List.length_append, List.length_append, data_len, textL_len, List.length_cons, k.1]
      omega
  have := f sg h.2.2
  show (Pk.textL body ++ laySg sg).length ≤ _
  rw [List.length_append, textL_len, laySg, List.length_append, Pk.beN_length]
  omega
theorem seal_size (body : ByteArray) (sg : List SigM) : (sealV body sg).1.size ≤ 100000 := by
  unfold sealV
  by_cases h : sealB body sg = true
  · rw [if_pos h, Pk.mk_size]; exact laySe_len h
  · rw [if_neg h]; exact Nat.zero_le _
set_option maxHeartbeats 3200000 in
set_option maxRecDepth 100000 in
theorem law_seals (body text : ByteArray) (a : Option Addr) (n c : Nat) (sg : List SigM) (B : Nat) (w : World) (hL : NL B w) (hB : B ≤ w.heap.size) (hv : SigsAt w (.slice a n c) sg) (hn : sg.length = n) (hm : n ≤ maxLen) (_ : body.size ≤ 140737488355328) (ht : text.size ≤ 140737488355328) :
    Calls Tryz.prog 5 #[.string body, .slice a n c, .string text] w fun e w' => e = .returned (.bool true) ∧ Below w.heap.size w w' := by
  have hq := seals_any B w hL hB
  have hvB := Box.mk hv
  have hnB := Box.mk hn
  have hmB := Box.mk hm
  obtain ⟨sx, hsx⟩ : ∃ x, (sealV body sg).1 = x := ⟨_, rfl⟩
  obtain ⟨ee, hee⟩ : ∃ x, (sealV body sg).2 = x := ⟨_, rfl⟩
  have hR : sealR body sg = .tuple #[.string sx, .int .i64 ee] := by unfold sealR; rw [hsx, hee]
  have hsz : sx.size ≤ 100000 := by rw [← hsx]; exact seal_size body sg
  have hsum : sx.size + text.size ≤ 9223372036854775807 := by omega
  have hfin : ee = 0 → unsM sx.data.toList = (body, sg, 0) := fun h0 => by
    rw [← hee] at h0
    rw [← hsx]
    unfold sealV at h0 ⊢
    by_cases h : sealB body sg = true
    · rw [if_pos h, Pk.mk_list]; exact uns_back h
    · rw [if_neg h] at h0; cases h0
  have hcat := Box.mk fun (w' : World) => run_string_add_sum (P := Tryz.prog) (w := w') sx text hsum
  replace hfin := Box.mk hfin
  have hRB := Box.mk hR
  clear hL hB hv hn hm hsx hee hR hsz hsum ht
  go_enter Tryz.func5, Tryz.ntmps5
  go_wp2_with fail
  refine hq.mono ?_
  clear hq
  rintro r w2 ⟨rfl, hbe⟩
  have hB2 := Box.mk hbe
  have hq := seal_n body a n c sg w2 (hvB.out.here hbe) hnB.out
  rw [hRB.out] at hq
  clear hbe
  go_wp2_with fail
  refine hq.mono ?_
  clear hq
  rintro r w3 ⟨rfl, hbe⟩
  have hB3 := Box.mk (mono_bel hB2.out hbe (Nat.le_refl _))
  have hq := rseal_n body a n c sg w3 (hvB.out.here hB3.out) hnB.out
  rw [hRB.out] at hq
  clear hbe hB2 hRB
  go_wp2_with fail
  refine hq.mono ?_
  clear hq
  rintro r w4 ⟨rfl, hbe⟩
  have hB4 := Box.mk (mono_bel hB3.out hbe (Nat.le_refl _))
  have hcat4 := hcat.out w4
  clear hbe hB3 hcat
  obtain ⟨sy, hsy⟩ : ∃ x, sx ++ text = x := ⟨_, rfl⟩
  obtain ⟨w5, hw5⟩ : ∃ x, w4.alloc (.cells #[.string sx, .string text, .string sy] 9) = x := ⟨_, rfl⟩
  have hb5 : Below w4.heap.size w4 w5 := by rw [← hw5]; exact bel_alloc _ _
  have hQ5 : Box (Pk.Blk w5 w4.heap.size [.string sx, .string text, .string sy] 9) := ⟨by rw [← hw5]; exact Pk.Blk.new w4 [.string sx, .string text, .string sy] _⟩
  have hB5 := Box.mk (mono_bel hB4.out hb5 (Nat.le_refl _))
  obtain ⟨bq, hbq⟩ : ∃ x, w4.heap.size = x := ⟨_, rfl⟩
  rw [hbq] at hQ5
  rw [hsy] at hcat4
  clear hb5 hB4
  go_wp2_with fail
  have hR0 : Box (Below w5.heap.size w5 w5) := ⟨Below.refl _ _⟩
  go_loopw [51] (fun q wr => ∃ i : Nat, i ≤ 3 ∧ q = .int .i64 (i : Int) ∧ Box (Below w5.heap.size w5 wr)) (fun q _ => 3 - (intOf q).toNat)
  case atStart => exact ⟨0, by omega, rfl, hR0⟩
  case round =>
    clear hR0
    obtain ⟨i, hi, rfl, hR⟩ := hrel
    rcases (show i = 0 ∨ i = 1 ∨ i = 2 ∨ i = 3 by omega) with rfl | rfl | rfl | rfl
    · have c0 : wr.cell? ⟨bq, 0, none⟩ = some (.string sx) := (blk_here hQ5.out hR.out).cell 0
      obtain ⟨U, hU⟩ : ∃ U, unsM sx.data.toList = U := ⟨_, rfl⟩
      have hq := unseal_any sx wr
      unfold UnsS at hq
      rw [hU] at hq
      have hq2 := Box.mk fun w' => runseal_any sx w'
      unfold UnsS at hq2
      rw [hU] at hq2
      replace hq := Box.mk hq
      have hlen := (uns_len sx.data.toList).2
      rw [hU] at hlen
      clear hU hi
      go_wp2_with fail
      refine hq.out.mono ?_
      clear hq
      rintro r w6 ⟨⟨a1, c1, rfl, r1⟩, hb⟩
      have hR6 := Box.mk (mono_bel hR.out hb (Nat.le_refl _))
      have r1 := Box.mk r1
      have hq := Box.mk (hq2.out w6)
      clear hb hq2
      go_wp2_with fail
      refine hq.out.mono ?_
      clear hq
      rintro r w7 ⟨⟨a2, c2, rfl, r2⟩, hb⟩
      have hR7 := Box.mk (mono_bel hR6.out hb (Nat.le_refl _))
      have hq := samesigs_any a1 a2 U.2.1.length c1 c2 U.2.1 w7 (r1.out.below hb).at_ r2.at_ rfl (Nat.le_trans hlen (by decide))
      replace hq := Box.mk hq
      clear hb hR6 r1 r2 hlen
      go_wp2_with fail
      refine hq.out.mono ?_
      clear hq
      rintro r w8 ⟨rfl, hb⟩
      have hR8 := Box.mk (mono_bel hR7.out hb (Nat.le_refl _))
      clear hb hR7
      go_wp2_with fail
      exact ⟨⟨1, by omega, rfl, hR8⟩, by simp [intOf]⟩
    · have c0 : wr.cell? ⟨bq, 1, none⟩ = some (.string text) := (blk_here hQ5.out hR.out).cell 1
      obtain ⟨U, hU⟩ : ∃ U, unsM text.data.toList = U := ⟨_, rfl⟩
      have hq := unseal_any text wr
      unfold UnsS at hq
      rw [hU] at hq
      have hq2 := Box.mk fun w' => runseal_any text w'
      unfold UnsS at hq2
      rw [hU] at hq2
      replace hq := Box.mk hq
      have hlen := (uns_len text.data.toList).2
      rw [hU] at hlen
      clear hU hi
      go_wp2_with fail
      refine hq.out.mono ?_
      clear hq
      rintro r w6 ⟨⟨a1, c1, rfl, r1⟩, hb⟩
      have hR6 := Box.mk (mono_bel hR.out hb (Nat.le_refl _))
      have r1 := Box.mk r1
      have hq := Box.mk (hq2.out w6)
      clear hb hq2
      go_wp2_with fail
      refine hq.out.mono ?_
      clear hq
      rintro r w7 ⟨⟨a2, c2, rfl, r2⟩, hb⟩
      have hR7 := Box.mk (mono_bel hR6.out hb (Nat.le_refl _))
      have hq := samesigs_any a1 a2 U.2.1.length c1 c2 U.2.1 w7 (r1.out.below hb).at_ r2.at_ rfl (Nat.le_trans hlen (by decide))
      replace hq := Box.mk hq
      clear hb hR6 r1 r2 hlen
      go_wp2_with fail
      refine hq.out.mono ?_
      clear hq
      rintro r w8 ⟨rfl, hb⟩
      have hR8 := Box.mk (mono_bel hR7.out hb (Nat.le_refl _))
      clear hb hR7
      go_wp2_with fail
      exact ⟨⟨2, by omega, rfl, hR8⟩, by simp [intOf]⟩
    · have c0 : wr.cell? ⟨bq, 2, none⟩ = some (.string sy) := (blk_here hQ5.out hR.out).cell 2
      obtain ⟨U, hU⟩ : ∃ U, unsM sy.data.toList = U := ⟨_, rfl⟩
      have hq := unseal_any sy wr
      unfold UnsS at hq
      rw [hU] at hq
      have hq2 := Box.mk fun w' => runseal_any sy w'
      unfold UnsS at hq2
      rw [hU] at hq2
      replace hq := Box.mk hq
      have hlen := (uns_len sy.data.toList).2
      rw [hU] at hlen
      clear hU hi
      go_wp2_with fail
      refine hq.out.mono ?_
      clear hq
      rintro r w6 ⟨⟨a1, c1, rfl, r1⟩, hb⟩
      have hR6 := Box.mk (mono_bel hR.out hb (Nat.le_refl _))
      have r1 := Box.mk r1
      have hq := Box.mk (hq2.out w6)
      clear hb hq2
      go_wp2_with fail
      refine hq.out.mono ?_
      clear hq
      rintro r w7 ⟨⟨a2, c2, rfl, r2⟩, hb⟩
      have hR7 := Box.mk (mono_bel hR6.out hb (Nat.le_refl _))
      have hq := samesigs_any a1 a2 U.2.1.length c1 c2 U.2.1 w7 (r1.out.below hb).at_ r2.at_ rfl (Nat.le_trans hlen (by decide))
      replace hq := Box.mk hq
      clear hb hR6 r1 r2 hlen
      go_wp2_with fail
      refine hq.out.mono ?_
      clear hq
      rintro r w8 ⟨rfl, hb⟩
      have hR8 := Box.mk (mono_bel hR7.out hb (Nat.le_refl _))
      clear hb hR7
      go_wp2_with fail
      exact ⟨⟨3, by omega, rfl, hR8⟩, by simp [intOf]⟩
    · clear hi
      by_cases he : ee = 0
      · subst he
        have hU := hfin.out rfl
        have hq := unseal_any sx wr
        unfold UnsS at hq
        rw [hU] at hq
        dsimp only at hq
        clear hfin hU
        go_wp2_with fail
        refine hq.mono ?_
        clear hq
        rintro r w6 ⟨⟨a1, c1, rfl, r1⟩, hb⟩
        have hR6 := Box.mk (mono_bel hR.out hb (Nat.le_refl _))
        have hq := samesigs_any a1 a n c1 c sg w6 (by rw [← hnB.out]; exact r1.at_) (hvB.out.here (mono_bel hB5.out hR6.out (Nat.le_refl _))) hnB.out hmB.out
        rw [hnB.out]
        replace hq := Box.mk hq
        clear hb r1
        go_wp2_with fail
        refine hq.out.mono ?_
        clear hq
        rintro r w7 ⟨rfl, hb⟩
        have hR7 := Box.mk (mono_bel hR6.out hb (Nat.le_refl _))
        clear hb
        go_wp2_with fail
        go_ret
        exact ⟨by first | rfl | simp, mono_bel hB5.out hR7.out (Nat.le_refl _)⟩
      · have hed : (ee != 0) = true := by simpa using he
        clear he hfin
        go_wp2_with fail
        go_ret
        exact ⟨by first | rfl | simp, mono_bel hB5.out hR.out (Nat.le_refl _)⟩
end Go.Proofs.YtiblkfkeifnpaaaGreatDoor.Me
