/- Walk of the law PackReads: more than 500 operations. -/
import Derived.Test.YtnfcgjefliccgaaPkS
namespace Go.Proofs.Ytnfcgjefliccgaa
open Go.RowKit

set_option maxHeartbeats 3200000 in
set_option maxRecDepth 100000 in
theorem reads_gt (T : ByteArray) (ca : Option Addr) (L C : Nat) (w : World) (hL : 500 < L) (hLC : L ≤ C)
    (hcut : 0 < L → ∃ cb co, ca = some ⟨cb, co, none⟩ ∧ cb < w.heap.size ∧ ∀ i, i < L → ∃ (k : UInt8) (n : Int) (s : ByteArray), w.cell? ⟨cb, co + i * 3, none⟩ = some (.int .u8 (k.toNat : Int)) ∧ w.cell? ⟨cb, co + i * 3 + 1, none⟩ = some (.int .i64 n) ∧ w.cell? ⟨cb, co + i * 3 + 2, none⟩ = some (.string s)) :
    Calls Try.prog 4 #[.string T, .slice ca L C] w fun e w' => e = .returned (.bool true) ∧ Below w.heap.size w w' := by
  have hH := lays_any w
  replace hcut := Box.mk hcut
  go_enter Try.func4, Try.ntmps4
  go_wp2_with fail
  refine hH.mono ?_
  rintro e w1 ⟨rfl, hb1⟩
  clear hH
  have hR := read_new T w1
  replace hb1 := Box.mk hb1
  go_wp2_with fail
  refine hR.mono ?_
  rintro e w2 ⟨rfl, hr2, hb2⟩
  clear hR
  have hX := xread_new T w2
  replace hr2 := Box.mk hr2
  replace hb2 := Box.mk hb2
  go_wp2_with fail
  refine hX.mono ?_
  rintro e w3 ⟨rfl, hr3, hb3⟩
  clear hX
  replace hr3 := Box.mk hr3
  replace hb3 := Box.mk hb3
  have hz3 : Box (RAt (w3.alloc (.cells #[.string (btx []), .int .i64 0] 43)) w3.heap.size 43 [] 0) := ⟨Blk.new w3 [.string (btx []), .int .i64 0] _⟩
  have hX2 := xread_new { data := #[] } (w3.alloc (.cells #[.string (btx []), .int .i64 0] 43))
  rw [show btx [] = { data := #[] } from rfl] at hX2 hz3
  have hb4 : Box (Below w3.heap.size w3 (w3.alloc (.cells #[.string { data := #[] }, .int .i64 0] 43))) := ⟨(Below.refl _ _).alloc (Nat.le_refl _) _⟩
  have hz4 : Box ((w3.alloc (.cells #[.string { data := #[] }, .int .i64 0] 43)).heap.size = w3.heap.size + 1) := ⟨by simp⟩
  obtain ⟨w4, hw4⟩ : ∃ w4, w3.alloc (.cells #[.string { data := #[] }, .int .i64 0] 43) = w4 := ⟨_, rfl⟩
  rw [hw4] at hz3 hX2 hb4 hz4
  replace hX2 := Box.mk hX2
  go_wp2_with fail
  refine hX2.out.mono ?_
  rintro e w5 ⟨rfl, hr5, hb5⟩
  clear hX2 hw4
  have hF : Box (Four w w1.heap.size w2.heap.size w3.heap.size w4.heap.size w5) := by
    have s1 := hb1.out.size
    have s2 := hb2.out.size
    have s3 := hb3.out.size
    have s4 := hz4.out
    have l2 := hr2.out.lt
    have l3 := hr3.out.lt
    have q2 : RAt w5 w1.heap.size _ _ _ := (((hr2.out.chg (Chg.of_below hb3.out) (by omega)).chg (Chg.of_below hb4.out) (by omega)).chg (Chg.of_below hb5) (by omega))
    have q3 : RAt w5 w2.heap.size _ _ _ := ((hr3.out.chg (Chg.of_below hb4.out) (by omega)).chg (Chg.of_below hb5) (by omega))
    have q4 : RAt w5 w3.heap.size _ _ _ := hz3.out.chg (Chg.of_below hb5) (by omega)
    exact ⟨⟨⟨_, _, q2, q3⟩, ⟨_, _, q4, hr5⟩, by omega, by omega, by omega, by omega, ⟨by omega, by omega, by omega, by omega⟩, (((hb1.out.trans (hb2.out.mono (by omega))).trans (hb3.out.mono (by omega))).trans (hb4.out.mono (by omega))).trans (hb5.mono (by omega))⟩⟩
  clear hr2 hr3 hr5 hz3 hb1 hb2 hb3 hb4 hb5 hz4
  generalize w1.heap.size = br at hF ⊢
  generalize w2.heap.size = bx at hF ⊢
  generalize w3.heap.size = bz at hF ⊢
  generalize w4.heap.size = b4 at hF ⊢
  go_wp2_with fail
  go_loopw [24] (fun s24 wr => ∃ i : Nat, i ≤ L ∧ i ≤ 500 ∧ s24 = .int .i64 i ∧ Box (Four w br bx bz b4 wr)) (fun s24 _ => L - (intOf s24).toNat)
  case atStart => exact ⟨0, by omega, by omega, rfl, hF⟩
  case round =>
    clear hF
    obtain ⟨i, hi, hi5, rfl, hF⟩ := hrel
    by_cases hlt : i < L ∧ i < 500
    · obtain ⟨q1, q2⟩ := hlt
      obtain ⟨cb, co, rfl, hcb, hcs⟩ := hcut.out (by omega)
      obtain ⟨k, n, s, d0, d1, d2⟩ := hcs i q1
      rw [← hF.out.k.cell (p := ⟨cb, _, none⟩) hcb] at d0 d1 d2
      clear hcs
      have hFa := Box.mk (hF.out.alloc (.cells #[.int .u8 (k.toNat : Int), .int .i64 n, .string s] 31))
      have hR1 := Box.mk (hFa.out.read1 k n s)
      have hlt := hF.out.lt
      have hnew := Blk.new wr [.int .u8 (k.toNat : Int), .int .i64 n, .string s] 31
      obtain ⟨bo, hbo⟩ : ∃ bo, wr.heap.size = bo := ⟨_, rfl⟩
      have hbr : Box (bo ≠ br ∧ bo ≠ bx) := ⟨by omega⟩
      rw [hbo] at hnew
      replace hnew := Box.mk hnew
      clear hlt hF
      go_wp2_with fail
      refine hR1.out.mono ?_
      rintro r w6 ⟨rfl, hF6, hC6⟩
      have hb6 := hC6.out.blk hnew.out (by rintro (h | h); exact hbr.out.1 h; exact hbr.out.2 h)
      have e0 : w6.cell? ⟨bo, 0, none⟩ = some (.int .u8 (k.toNat : Int)) := hb6.cell 0
      have e1 : w6.cell? ⟨bo, 1, none⟩ = some (.int .i64 n) := hb6.cell 1
      have e2 : w6.cell? ⟨bo, 2, none⟩ = some (.string s) := hb6.cell 2
      have hR2 := Box.mk (hF6.out.read2 k n s)
      clear hR1 hFa hC6 hb6 d0 d1 d2 hnew
      go_wp2_with fail
      refine hR2.out.mono ?_
      rintro r w7 ⟨rfl, hF7⟩
      clear hR2 e0 e1 e2
      go_wp2_with fail
      exact ⟨⟨i + 1, by omega, by omega, by go_num, hF7⟩, by simp [intOf]; omega⟩
    · have hend : ¬ i < 500 := by omega
      go_wp2_with fail
      have hFd : Box (Four w br bx bz b4 wr.drew) := ⟨hF.out.keep ⟨rfl, rfl, rfl, Nat.le_refl _, fun _ _ => rfl⟩⟩
      refine region_go (C := fun _ => True) rfl ?_
      generalize wr.drew = wd at hFd ⊢
      clear hF
      obtain ⟨l, e, h1⟩ := hFd.out.a
      replace h1 := Box.mk h1
      refine go_calms [0, 2] 25 rfl (by kernel_rfl) (by kernel_rfl) (by kernel_rfl) True.intro ?_
      simp [nth]
      repeat (go_big_quiet_step (first | exact fun _ => rfl | rfl))
      refine wpQuiet_nil ?_
      refine go_forced 1 (by kernel_rfl) (goOp_wp 1 rfl rfl (fun K hK => ?_))
      go_simp
      refine (end_any br l e wd h1.out.r).mono ?_
      rintro r w5 ⟨rfl, hN5⟩
      refine hK _ _ True.intro ?_
      clear hK K
      have hx5 := Box.mk (h1.out.x.chg hN5.chg (Ne.symm h1.out.ne))
      replace hN5 := Box.mk hN5
      refine go_forced 3 (by kernel_rfl) (goOp_wp 3 rfl rfl (fun K hK => ?_))
      go_simp
      refine (xend_any bx l e w5 hx5.out).mono ?_
      rintro r w6 ⟨rfl, hN6⟩
      refine hK _ _ True.intro ?_
      clear hK K
      have hT := TwoNext.of h1.out hN5.out hN6
      obtain ⟨e2, he2⟩ : ∃ e2, endE l e = e2 := ⟨_, rfl⟩
      simp only [he2] at hT ⊢
      have hF6 := Box.mk (hFd.out.first hT)
      have c1 : w6.cell? ⟨bx, 1, none⟩ = some (.int .i64 e2) := hT.two.x.cell 1
      have hT' := Box.mk hT.two
      obtain ⟨l3, e3, h3⟩ := hF6.out.b
      replace h3 := Box.mk h3
      clear hN5 hN6 hx5 hT hFd h1 he2
      refine go_calms [4, 5, 6, 8, 9, 10] 17 rfl (by kernel_rfl) (by kernel_rfl) (by kernel_rfl) True.intro ?_
      simp [nth]
      repeat (go_big_quiet_step (first | exact fun _ => rfl | rfl))
      refine wpQuiet_nil ?_
      refine go_fork 7 11 (by kernel_rfl) (goOp_wp 7 rfl rfl (fun K hK => ?_)) (goOp_wp 11 rfl rfl (fun K hK => ?_))
      · go_simp
        refine (err_any br l e2 w6 hT'.out.r).mono ?_
        rintro r w' ⟨rfl, rfl⟩
        refine hK _ _ True.intro ?_
        clear hK K
        refine go_forced 11 (by kernel_rfl) (goOp_wp 11 rfl rfl (fun K hK => ?_))
        go_simp
        refine hK _ _ True.intro ?_
        clear hK K hT' c1
        refine go_calms [12, 13, 14, 16] 11 rfl (by kernel_rfl) (by kernel_rfl) (by kernel_rfl) True.intro ?_
        simp [nth]
        repeat (go_big_quiet_step (first | exact fun _ => rfl | rfl))
        refine wpQuiet_nil ?_
        refine go_forced 15 (by kernel_rfl) (goOp_wp 15 rfl rfl (fun K hK => ?_))
        go_simp
        refine (end_any bz l3 e3 w6 h3.out.r).mono ?_
        rintro r w7 ⟨rfl, hN7⟩
        refine hK _ _ True.intro ?_
        clear hK K
        have hx7 := Box.mk (h3.out.x.chg hN7.chg (Ne.symm h3.out.ne))
        replace hN7 := Box.mk hN7
        refine go_forced 17 (by kernel_rfl) (goOp_wp 17 rfl rfl (fun K hK => ?_))
        go_simp
        refine (xend_any b4 l3 e3 w7 hx7.out).mono ?_
        rintro r w8 ⟨rfl, hN8⟩
        refine hK _ _ True.intro ?_
        clear hK K
        have hF8 := Box.mk (hF6.out.second (TwoNext.of h3.out hN7.out hN8))
        clear hN7 hN8 hx7 h3 hF6
        refine go_calms [18, 19, 20, 21, 22] 4 rfl (by kernel_rfl) (by kernel_rfl) (by kernel_rfl) True.intro ?_
        simp [nth]
        repeat (go_big_quiet_step (first | exact fun _ => rfl | rfl))
        refine wpQuiet_nil ?_
        refine go_forced 23 (by kernel_rfl) (goOp_wp 23 rfl rfl (fun K hK => ?_))
        go_simp
        refine hK _ _ True.intro ?_
        clear hK K
        refine go_forced 24 (by kernel_rfl) (goOp_wp 24 rfl rfl (fun K hK => ?_))
        go_simp
        refine (hF8.out.read1 0 0 { data := #[] }).mono ?_
        rintro r w9 ⟨rfl, hF9, _⟩
        refine hK _ _ True.intro ?_
        clear hK K
        refine go_calms [25, 26] 0 rfl (by kernel_rfl) (by kernel_rfl) (by kernel_rfl) True.intro ?_
        simp [nth]
        repeat (go_big_quiet_step (first | exact fun _ => rfl | rfl))
        refine wpQuiet_nil ?_
        refine go_done (by kernel_rfl) ?_
        go_wp2_with fail
        go_ret
        exact ⟨rfl, hF9.out.k⟩
      · go_simp
        refine hK _ _ True.intro ?_
        clear hK K
        refine go_forced 7 (by kernel_rfl) (goOp_wp 7 rfl rfl (fun K hK => ?_))
        go_simp
        refine (err_any br l e2 w6 hT'.out.r).mono ?_
        rintro r w' ⟨rfl, rfl⟩
        refine hK _ _ True.intro ?_
        clear hK K hT' c1
        refine go_calms [12, 13, 14, 16] 11 rfl (by kernel_rfl) (by kernel_rfl) (by kernel_rfl) True.intro ?_
        simp [nth]
        repeat (go_big_quiet_step (first | exact fun _ => rfl | rfl))
        refine wpQuiet_nil ?_
        refine go_forced 15 (by kernel_rfl) (goOp_wp 15 rfl rfl (fun K hK => ?_))
        go_simp
        refine (end_any bz l3 e3 w6 h3.out.r).mono ?_
        rintro r w7 ⟨rfl, hN7⟩
        refine hK _ _ True.intro ?_
        clear hK K
        have hx7 := Box.mk (h3.out.x.chg hN7.chg (Ne.symm h3.out.ne))
        replace hN7 := Box.mk hN7
        refine go_forced 17 (by kernel_rfl) (goOp_wp 17 rfl rfl (fun K hK => ?_))
        go_simp
        refine (xend_any b4 l3 e3 w7 hx7.out).mono ?_
        rintro r w8 ⟨rfl, hN8⟩
        refine hK _ _ True.intro ?_
        clear hK K
        have hF8 := Box.mk (hF6.out.second (TwoNext.of h3.out hN7.out hN8))
        clear hN7 hN8 hx7 h3 hF6
        refine go_calms [18, 19, 20, 21, 22] 4 rfl (by kernel_rfl) (by kernel_rfl) (by kernel_rfl) True.intro ?_
        simp [nth]
        repeat (go_big_quiet_step (first | exact fun _ => rfl | rfl))
        refine wpQuiet_nil ?_
        refine go_forced 23 (by kernel_rfl) (goOp_wp 23 rfl rfl (fun K hK => ?_))
        go_simp
        refine hK _ _ True.intro ?_
        clear hK K
        refine go_forced 24 (by kernel_rfl) (goOp_wp 24 rfl rfl (fun K hK => ?_))
        go_simp
        refine (hF8.out.read1 0 0 { data := #[] }).mono ?_
        rintro r w9 ⟨rfl, hF9, _⟩
        refine hK _ _ True.intro ?_
        clear hK K
        refine go_calms [25, 26] 0 rfl (by kernel_rfl) (by kernel_rfl) (by kernel_rfl) True.intro ?_
        simp [nth]
        repeat (go_big_quiet_step (first | exact fun _ => rfl | rfl))
        refine wpQuiet_nil ?_
        refine go_done (by kernel_rfl) ?_
        go_wp2_with fail
        go_ret
        exact ⟨rfl, hF9.out.k⟩
end Go.Proofs.Ytnfcgjefliccgaa
