/- Bills made: Make of the document. -/
import Derived.Test.YtdnhpldcnmbncaaDoorBlF
namespace Go.Proofs.YtdnhpldcnmbncaaDoor.Bi
open Go Go.RowKit Go.Proofs.YtdnhpldcnmbncaaDoor
set_option linter.all false

theorem num_v {v s c : Int} (hv : 1 ≤ v ∧ v ≤ 255) (h : numB 1 s c = true) : numB v s c = true := by
  obtain ⟨_, _, h1, h2, h3⟩ := num_sz h
  exact num_yes ⟨hv.1, hv.2, h1, h2⟩ h3
theorem num_w {v s c : Int} (h : numB v s c = true) : numB 1 s c = true := by
  obtain ⟨_, _, h1, h2, h3⟩ := num_sz h
  exact num_yes ⟨by omega, by omega, h1, h2⟩ h3
theorem root32 (l : List ByteArray) (h : ∀ x ∈ l, x.size = 32) : (rootL l).size = 32 := by
  by_cases h2 : 2 ≤ l.length
  · rw [rootL_cut l h2, nodeH_size]
  · rcases l with _ | ⟨y, _ | ⟨z, l⟩⟩
    · rw [rootL_nil, noneH_size]
    · rw [rootL_one]; exact h y (by simp)
    · simp at h2
/-- A made bill is good. -/
theorem mk_good {v c : Int} {x : ByteArray} {m : Nat} (hn : numB v x.size c = true) (hm : cntI x.size c = (m : Int)) :
    chkB v x.size c (hashOf x.data.toList) (rootL (mkL c.toNat x m)) (mkL c.toNat x m) = true := by
  unfold chkB lstB
  rw [hn, hm, mkL_len]
  have h1 : (hashOf x.data.toList).size = 32 := hash_size _
  have h2 : (mkL c.toNat x m).all (fun y => decide (y.size = 32)) = true := by
    rw [List.all_eq_true]
    intro y hy
    simpa using mkL_32 _ _ _ y hy
  rw [h1, root32 _ (mkL_32 _ _ _), h2]
  simp
theorem mk_bad {v c : Int} {h t x : ByteArray} {l : List ByteArray} (hn : ¬ (1 ≤ v ∧ v ≤ 255)) : chkB v x.size c h t l = false := by
  unfold chkB
  rw [num_no (by omega)]; rfl
theorem i_lt {S : Nat} {c : Int} {m i : Nat} (hn : numB 1 S c = true) (hm : cntI S c = (m : Int)) : i < m ↔ ((i * c.toNat : Nat) : Int) < (S : Int) := by
  obtain ⟨m', hm', m1, m2, m3, m4⟩ := cnt_nat hn
  obtain rfl : m' = m := by omega
  obtain ⟨_, _, h1, h2, h3⟩ := num_sz hn
  rcases sz_cases h3 with rfl | rfl | rfl | rfl | rfl <;> (simp only [show (64 : Int).toNat = 64 from rfl, show (128 : Int).toNat = 128 from rfl, show (256 : Int).toNat = 256 from rfl, show (512 : Int).toNat = 512 from rfl, show (1024 : Int).toNat = 1024 from rfl]; omega)
theorem i_next {S : Nat} {c : Int} {m i : Nat} (hn : numB 1 S c = true) : ((i * c.toNat : Nat) : Int) + c = (((i + 1) * c.toNat : Nat) : Int) := by
  obtain ⟨_, _, h1, h2, h3⟩ := num_sz hn
  rcases sz_cases h3 with rfl | rfl | rfl | rfl | rfl <;> (simp only [show (64 : Int).toNat = 64 from rfl, show (128 : Int).toNat = 128 from rfl, show (256 : Int).toNat = 256 from rfl, show (512 : Int).toNat = 512 from rfl, show (1024 : Int).toNat = 1024 from rfl]; omega)
set_option maxHeartbeats 3200000 in
set_option maxRecDepth 100000 in
theorem rmake_any (v c : Int) (x : ByteArray) (w : World) (hx : x.size ≤ 140737488354000) :
    Calls Tryd.prog 9 #[.int .i64 v, .int .i64 c, .string x] w (mkIs v c x w) := by
  have hz : Box (BAt (w.alloc (.cells #[.int .i64 0, .int .i64 0, .int .i64 0, .string ⟨#[]⟩, .string ⟨#[]⟩, .slice none 0 0] 25)) w.heap.size 0 0 0 ⟨#[]⟩ ⟨#[]⟩ (.slice none 0 0)) := ⟨BAt.new w _ _ _ _ _ _⟩
  have hbz := Box.mk (bel_alloc w (.cells #[.int .i64 0, .int .i64 0, .int .i64 0, .string ⟨#[]⟩, .string ⟨#[]⟩, .slice none 0 0] 25))
  obtain ⟨w1, hw1⟩ : ∃ W, w.alloc (.cells #[.int .i64 0, .int .i64 0, .int .i64 0, .string ⟨#[]⟩, .string ⟨#[]⟩, .slice none 0 0] 25) = W := ⟨_, rfl⟩
  rw [hw1] at hz hbz
  obtain ⟨r, hr⟩ : ∃ r, w.heap.size = r := ⟨_, rfl⟩
  have hSm := rsumone x w1 (by omega)
  have hHd : Box (hashOf x.data.toList = hashOf x.data.toList) := ⟨rfl⟩
  obtain ⟨H, hH⟩ : ∃ H, hashOf x.data.toList = H := ⟨_, rfl⟩
  rw [hH] at hSm
  have hM0 : Box (∀ w2, Below w1.heap.size w1 w2 → MX w w.heap.size w2.heap.size v x.size c H ⟨#[]⟩ (.slice none 0 0) [] (w2.alloc (.cells #[.int .i64 v, .int .i64 x.size, .int .i64 c, .string H, .string ⟨#[]⟩, .slice none 0 0] 25))) :=
    ⟨fun w2 hb => ⟨(hz.out.here hb).here (bel_alloc _ _), BAt.new w2 _ _ _ _ _ _, TxR.nil _ _, (fun e => by have := Pk.Blk.lt (hz.out.here hb); omega), Nat.le_refl _, Nat.le_trans hbz.out.size hb.size, mono_bel (mono_bel hbz.out hb (Nat.le_refl _)) (bel_alloc _ _) (Nat.le_refl _)⟩⟩
  rw [hr] at hM0
  replace hH := Box.mk hH
  clear hz hbz hHd
  go_enter Tryd.func9, Tryd.ntmps9
  go_wp2_with fail
  refine hSm.mono ?_
  clear hSm
  rintro e w2 ⟨rfl, hb2⟩
  have hM := Box.mk (hM0.out w2 hb2)
  obtain ⟨g, hg⟩ : ∃ g, w2.heap.size = g := ⟨_, rfl⟩
  rw [hg] at hM
  clear hb2 hM0 hw1
  obtain ⟨q0, q1, q2, q3, q4, q5⟩ := hM.out.res.cells
  obtain ⟨f0, f1, f2, f3, f4, f5⟩ := hM.out.res.frees
  have fin0 := hM.out.fin (v' := 0) (s' := 0) (c' := 0) (h' := ⟨#[]⟩) (t' := ⟨#[]⟩) (x' := .slice none 0 0)
  replace fin0 := Box.mk fin0
  by_cases g3 : (x.size : Int) < 1
  · have hN2 : Box (numB v x.size c = false) := ⟨num_no (by omega)⟩
    go_wp2_with fail
    show bodyPost _ _ _ _ _ (put6 _ r 0 0 0 ⟨#[]⟩ ⟨#[]⟩ (.slice none 0 0))
    clear q0 q1 q2 q3 q4 q5 f0 f1 f2 f3 f4 f5 hM
    obtain ⟨k1, k2, k3⟩ := fin0.out
    clear fin0
    obtain ⟨q0, q1, q2, q3, q4, q5⟩ := k1.cells
    obtain ⟨W, hW⟩ : ∃ W, put6 (w2.alloc (.cells #[.int .i64 v, .int .i64 x.size, .int .i64 c, .string H, .string ⟨#[]⟩, .slice none 0 0] 25)) r 0 0 0 ⟨#[]⟩ ⟨#[]⟩ (.slice none 0 0) = W := ⟨_, rfl⟩
    rw [hW] at q0 q1 q2 q3 q4 q5 k2 k3 ⊢
    refine bodyPost_ret (v := .tuple #[.agg #[.int .i64 0, .int .i64 0, .int .i64 0, .string ⟨#[]⟩, .string ⟨#[]⟩, .slice none 0 0], .int .i64 1]) (by simp [results, Tryd.results9, go_sem, q0, q1, q2, q3, q4, q5]; try rfl) rfl ⟨fun h => (by rw [hN2.out] at h; cases h), fun _ => ⟨_, rfl, k2, k3⟩⟩
  by_cases g4 : (x.size : Int) > 8192
  · have hN2 : Box (numB v x.size c = false) := ⟨num_no (by omega)⟩
    go_wp2_with fail
    show bodyPost _ _ _ _ _ (put6 _ r 0 0 0 ⟨#[]⟩ ⟨#[]⟩ (.slice none 0 0))
    clear q0 q1 q2 q3 q4 q5 f0 f1 f2 f3 f4 f5 hM
    obtain ⟨k1, k2, k3⟩ := fin0.out
    clear fin0
    obtain ⟨q0, q1, q2, q3, q4, q5⟩ := k1.cells
    obtain ⟨W, hW⟩ : ∃ W, put6 (w2.alloc (.cells #[.int .i64 v, .int .i64 x.size, .int .i64 c, .string H, .string ⟨#[]⟩, .slice none 0 0] 25)) r 0 0 0 ⟨#[]⟩ ⟨#[]⟩ (.slice none 0 0) = W := ⟨_, rfl⟩
    rw [hW] at q0 q1 q2 q3 q4 q5 k2 k3 ⊢
    refine bodyPost_ret (v := .tuple #[.agg #[.int .i64 0, .int .i64 0, .int .i64 0, .string ⟨#[]⟩, .string ⟨#[]⟩, .slice none 0 0], .int .i64 1]) (by simp [results, Tryd.results9, go_sem, q0, q1, q2, q3, q4, q5]; try rfl) rfl ⟨fun h => (by rw [hN2.out] at h; cases h), fun _ => ⟨_, rfl, k2, k3⟩⟩
  have h1 := rsize_any c (w2.alloc (.cells #[.int .i64 v, .int .i64 x.size, .int .i64 c, .string H, .string ⟨#[]⟩, .slice none 0 0] 25))
  go_wp2_with fail
  refine h1.mono ?_
  clear h1
  rintro e w3 ⟨rfl, hw3⟩
  subst hw3
  cases hsz : szB c
  · have hN2 : Box (numB v x.size c = false) := ⟨num_no2 hsz⟩
    clear hsz
    go_wp2_with fail
    show bodyPost _ _ _ _ _ (put6 _ r 0 0 0 ⟨#[]⟩ ⟨#[]⟩ (.slice none 0 0))
    clear q0 q1 q2 q3 q4 q5 f0 f1 f2 f3 f4 f5 hM
    obtain ⟨k1, k2, k3⟩ := fin0.out
    clear fin0
    obtain ⟨q0, q1, q2, q3, q4, q5⟩ := k1.cells
    obtain ⟨W, hW⟩ : ∃ W, put6 (w2.alloc (.cells #[.int .i64 v, .int .i64 x.size, .int .i64 c, .string H, .string ⟨#[]⟩, .slice none 0 0] 25)) r 0 0 0 ⟨#[]⟩ ⟨#[]⟩ (.slice none 0 0) = W := ⟨_, rfl⟩
    rw [hW] at q0 q1 q2 q3 q4 q5 k2 k3 ⊢
    refine bodyPost_ret (v := .tuple #[.agg #[.int .i64 0, .int .i64 0, .int .i64 0, .string ⟨#[]⟩, .string ⟨#[]⟩, .slice none 0 0], .int .i64 1]) (by simp [results, Tryd.results9, go_sem, q0, q1, q2, q3, q4, q5]; try rfl) rfl ⟨fun h => (by rw [hN2.out] at h; cases h), fun _ => ⟨_, rfl, k2, k3⟩⟩
  have hN := num_yes (v := 1) (s := (x.size : Int)) (by omega) hsz
  obtain ⟨m, hm, hm1, hm2, _, _⟩ := cnt_nat hN
  have hcs := sz_cases hsz
  have hc0 : 64 ≤ c := by omega
  have hc1 : c ≤ 1024 := by omega
  have n2 : x.size ≤ 8192 := by omega
  have hcn := Box.mk fun i (hi : i < m) => cutN_nat hN hm hi
  have hil := Box.mk fun i => i_lt (i := i) hN hm
  have hin := Box.mk fun i => i_next (m := m) (i := i) hN
  have hNB := Box.mk hN
  have hmB := Box.mk hm
  obtain ⟨CC, hCC⟩ : ∃ CC, c.toNat = CC := ⟨_, rfl⟩
  have hCCB := Box.mk hCC
  rw [hCC] at hil hin
  have hS0 : Box (∃ y, MX w r g v x.size c H ⟨#[]⟩ y (mkL CC x 0) (w2.alloc (.cells #[.int .i64 v, .int .i64 x.size, .int .i64 c, .string H, .string ⟨#[]⟩, .slice none 0 0] 25))) := ⟨_, hM.out⟩
  have h0c : Box (0 * CC = 0) := ⟨Nat.zero_mul _⟩
  clear hN hm hcs hsz hCC q0 q1 q2 q3 q4 q5 f0 f1 f2 f3 f4 f5 fin0 hM
  go_wp2_with fail
  clear hg g3 g4
  go_loopw [9] (fun q wr => ∃ i j : Nat, i ≤ m ∧ q = .int .i64 (j : Int) ∧ Box (i * CC = j) ∧ Box (∃ y, MX w r g v x.size c H ⟨#[]⟩ y (mkL CC x i) wr)) (fun q _ => 132096 - (intOf q).toNat)
  case atStart => exact ⟨0, 0, by omega, rfl, h0c, hS0⟩
  case round =>
    clear hS0 h0c
    obtain ⟨i, j, hi, rfl, hj, hS⟩ := hrel
    obtain ⟨y, hM⟩ := hS.out
    clear hS
    have hlt0 := hil.out i
    have hnx := hin.out i
    rw [hj.out] at hlt0 hnx
    by_cases hlt : i < m
    · have hii : (j : Int) < (x.size : Int) := hlt0.1 hlt
      obtain ⟨C, hC, z0, z1, z2, z3, z4, z5, z6, z7, z8⟩ := hcn.out i hlt
      have hCt : C = CC := by rw [← hCCB.out, hC]; rfl
      subst hCt
      have hsc := mkL_succ C x i
      have hch : chT C x i = leafH (x.extract (i * C) (min ((i + 1) * C) x.size)) := rfl
      rw [hch] at hsc
      have hll := mkL_len C x i
      have hj2 : Box ((i + 1) * C = j + C) := ⟨by rw [Nat.add_mul, hj.out, Nat.one_mul]⟩
      rw [hj.out] at z3 z4 z6 hsc
      obtain ⟨T, hT⟩ : ∃ T, min ((i + 1) * C) x.size = T := ⟨_, rfl⟩
      rw [hT] at z4 z5 hsc
      have hTm : min ((j : Int) + c) (x.size : Int) = (T : Int) := by rw [hj2.out] at hT; omega
      have hjc : Box ((j : Int) + c = ((j + C : Nat) : Int)) := ⟨by omega⟩
      replace hC := Box.mk hC
      obtain ⟨a, k, rfl⟩ := hM.row.shape
      rw [hll] at hM
      have hLf := Box.mk fun w' => rleaf_any (x.extract j T) w' (by rw [ByteArray.size_extract]; omega)
      obtain ⟨y, hy⟩ : ∃ y, leafH (x.extract j T) = y := ⟨_, rfl⟩
      rw [hy] at hLf hsc
      have hb0 := Box.mk hM.bel
      replace hM := Box.mk hM
      replace hsc := Box.mk hsc
      replace hll := Box.mk hll
      have kB := Box.mk fun w' (hb : Below wr.heap.size wr w') => (hM.out.here hb).bill
      have k5 := Box.mk fun w' (hb : BAt w' g v x.size c H ⟨#[]⟩ (.slice a i k)) => hb.cells.2.2.2.2.2
      clear z0 z1 z2 z7 z8 hch hT hy hlt0 hnx
      go_wp2_with fail
      refine region_sC (fun w' => BAt w' g v x.size c H ⟨#[]⟩ (.slice a i k)) (fun w' => Below wr.heap.size wr w') (fun w w' => w = w') rfl (dB wr) ?_
      refine anyS_calms [0, 1, 2, 3, 4, 5, 6, 7, 8, 9, 10] 5 rfl (fun _ => rfl) (stE kB.out) (by kernel_rfl) (by kernel_rfl) (by kernel_rfl) ?_
      simp [nth]
      try simp only [Act.put, List.setIfInBounds_toArray, List.set_cons_succ, List.set_cons_zero]
      repeat (go_big_quiet_step (first | exact fun _ => rfl | rfl))
      refine quiet_val rfl (.slice a i k) (fun w' hw' => by have h3 := k5.out w' hw'; go_simp) ?_
      simp only [Act.put, List.setIfInBounds_toArray, List.set_cons_succ, List.set_cons_zero]
      repeat (go_big_quiet_step (first | exact fun _ => rfl | rfl))
      refine wpQuiet_nil ?_
      refine anyS_forced 11 (by kernel_rfl) rfl rfl (fun wa hWa K hK => ?_)
      have hFc := hLf.out wa
      have hA2 := Box.mk (hM.out.here hWa)
      go_simp
      refine hFc.mono ?_
      rintro e wb ⟨rfl, hb⟩
      have hA3 := Box.mk (hA2.out.here hb)
      refine hK _ _ (fun w' => w' = wb) (stE fun w' e => e ▸ hA3.out.bill) rfl ?_
      clear hK K hFc hWa hb hLf hA2 hM
      refine anyS_forced 12 (by kernel_rfl) rfl rfl (fun wc hWc K hK => ?_)
      subst hWc
      have hz := Box.mk (parts_new wc [y] 9)
      have hA4 := Box.mk (hA3.out.here (bel_alloc wc (.cells #[.string y] 9)))
      go_simp
      refine hK _ _ (fun w' => w' = wc.alloc (.cells #[.string y] 9)) (stE fun w' e => e ▸ hA4.out.bill) rfl ?_
      clear hK K hA3
      refine anyS_forced 13 (by kernel_rfl) rfl rfl (fun wd hWd K hK => ?_)
      subst hWd
      refine wp_pushT (.tmp 40) (.tmp 51) rfl w.heap.size _ _ [y] rfl hA4.out.row hA4.out.bel.size (some ⟨wc.heap.size, 0, none⟩) 1 1 rfl rfl hz.out (by rw [hll.out]; omega) ?_
      intro v' w6 hp5
      obtain ⟨hE1, hE2⟩ := hA4.out.push hp5
      have hE := Box.mk hE1
      have hA6 := Box.mk hE2
      refine hK _ _ (fun w' => w' = w6) (stE fun w' e => e ▸ hE.out) rfl ?_
      clear hK K hp5 hz hA4 hE1 hE2
      refine anyS_calms [14] 1 rfl (fun _ => rfl) (stE fun w' e => e ▸ hE.out) (by kernel_rfl) (by kernel_rfl) (by kernel_rfl) ?_
      simp [nth]
      try simp only [Act.put, List.setIfInBounds_toArray, List.set_cons_succ, List.set_cons_zero]
      repeat (go_big_quiet_step (first | exact fun _ => rfl | rfl))
      refine wpQuiet_nil ?_
      refine anyS_last 15 (by kernel_rfl) rfl rfl (by kernel_rfl) (by kernel_rfl) (fun we hWe K hK => ?_)
      subst hWe
      have q5 := hE.out.cells.2.2.2.2.2
      have f5 := hE.out.frees.2.2.2.2.2
      rw [← hsc.out] at hA6
      have hS : Box (∃ y, MX w r g v x.size c H ⟨#[]⟩ y (mkL C x (i + 1)) (we.setCell ⟨g, 5, none⟩ v')) := ⟨⟨_, hA6.out⟩⟩
      obtain ⟨va, vc, rfl⟩ := hA6.out.row.shape
      rw [mkL_len] at hS ⊢
      obtain ⟨W5, hW5⟩ : ∃ W, we.setCell ⟨g, 5, none⟩ (.slice va (i + 1) vc) = W := ⟨_, rfl⟩
      rw [hW5] at hS
      go_simp
      refine hK _ _ ?_
      clear hK K q5 f5 hE hA6
      go_wp2_with fail
      exact ⟨⟨i + 1, j + C, by omega, by rw [hjc.out], hj2, hS⟩, by have := hC.out; simp [intOf]; omega⟩
    · obtain rfl : i = m := by omega
      have hnl : ¬ (j : Int) < (x.size : Int) := fun h => hlt (hlt0.2 h)
      have hll := mkL_len CC x i
      have h32 := mkL_32 CC x i
      have hgood := Box.mk fun hv => mk_good (v := v) (c := c) (x := x) (m := i) (num_v hv hNB.out) hmB.out
      have hbad := Box.mk fun hv L R => mk_bad (v := v) (c := c) (x := x) (h := H) (l := L) (t := R) hv
      rw [hCCB.out, hH.out] at hgood
      obtain ⟨L, hL⟩ : ∃ L, mkL CC x i = L := ⟨_, rfl⟩
      rw [hL] at hll h32 hM hgood
      obtain ⟨a, k, rfl⟩ := hM.row.shape
      rw [hll] at hM
      obtain ⟨q0, q1, q2, q3, q4, q5⟩ := hM.bill.cells
      have h2 := rroot_any i L a k wr (txPA hM.row hll) (fit32 h32)
      obtain ⟨R, hR⟩ : ∃ R, rootL L = R := ⟨_, rfl⟩
      rw [hR] at h2 hgood
      replace hM := Box.mk hM
      have hFit := Box.mk (fit32 h32)
      replace hll := Box.mk hll
      replace hL := Box.mk hL
      replace hR := Box.mk hR
      clear h32 hcn hil hin hlt0 hnx hj
      go_wp2_with fail
      refine h2.mono ?_
      clear h2 q0 q1 q2 q3 q4 q5
      rintro e w7 ⟨rfl, hb7⟩
      replace hM := Box.mk (hM.out.here hb7)
      clear hb7
      obtain ⟨q0, q1, q2, q3, q4, q5⟩ := hM.out.bill.cells
      obtain ⟨f0, f1, f2, f3, f4, f5⟩ := hM.out.bill.frees
      have hM2 := Box.mk (hM.out.set 4 (.string R) (h' := H) (t' := R) (v' := v) (s' := x.size) (c' := c) rfl)
      obtain ⟨w8, hw8⟩ : ∃ W, w7.setCell ⟨g, 4, none⟩ (.string R) = W := ⟨_, rfl⟩
      rw [hw8] at hM2
      clear q0 q1 q2 q3 q5 f0 f1 f2 f3 f5 hM
      obtain ⟨q0, q1, q2, q3, p4, q5⟩ := hM2.out.bill.cells
      have h2 := rcheck_any v x.size c H R a i k L w8 (txPA hM2.out.row hll.out) hFit.out
      by_cases hv : 1 ≤ v ∧ v ≤ 255
      · have hI : chkI v x.size c H R L = 0 := by unfold chkI; rw [hgood.out hv]; rfl
        rw [hI] at h2
        have hN2 : Box (numB v x.size c = true) := ⟨num_v hv hNB.out⟩
        clear hI hv
        go_wp2_with fail
        refine h2.mono ?_
        clear h2 q0 q1 q2 q3 q4 p4 q5 f4 hw8
        rintro e w9 ⟨rfl, hb9⟩
        replace hM := Box.mk (hM2.out.here hb9)
        clear hb9 hM2
        obtain ⟨q0, q1, q2, q3, p4, q5⟩ := hM.out.bill.cells
        obtain ⟨g0, g1, g2, g3, g4, g5⟩ := hM.out.res.frees
        obtain ⟨r0, r1, r2, r3, r4, r5⟩ := hM.out.res.cells
        go_wp2_with fail
        obtain ⟨k1, k2, k3⟩ := hM.out.fin (v' := v) (s' := x.size) (c' := c) (h' := H) (t' := R) (x' := .slice a i k)
        show bodyPost _ _ _ _ _ (put6 w9 r v x.size c H R (.slice a i k))
        clear q0 q1 q2 q3 q5 p4 g0 g1 g2 g3 g4 g5 r0 r1 r2 r3 r4 r5
        obtain ⟨q0, q1, q2, q3, q4, q5⟩ := k1.cells
        obtain ⟨W, hW⟩ : ∃ W, put6 w9 r v x.size c H R (.slice a i k) = W := ⟨_, rfl⟩
        rw [hW] at q0 q1 q2 q3 q4 q5 k2 k3 ⊢
        refine bodyPost_ret (v := .tuple #[.agg #[.int .i64 v, .int .i64 x.size, .int .i64 c, .string H, .string R, .slice a i k], .int .i64 0]) (by simp [results, Tryd.results9, go_sem, q0, q1, q2, q3, q4, q5]; try rfl) rfl ⟨fun _ => ?_, fun h => (by rw [hN2.out] at h; cases h)⟩
        rw [hmB.out, Int.toNat_natCast, hCCB.out, hL.out, hH.out, hR.out]
        exact ⟨_, rfl, k2, k3⟩
      · have hI : chkI v x.size c H R L = 1 := by unfold chkI; rw [hbad.out hv L R]; rfl
        rw [hI] at h2
        have hN2 : Box (numB v x.size c = false) := ⟨num_no (by omega)⟩
        clear hI hv
        go_wp2_with fail
        refine h2.mono ?_
        clear h2 q0 q1 q2 q3 q4 p4 q5 f4 hw8
        rintro e w9 ⟨rfl, hb9⟩
        replace hM := Box.mk (hM2.out.here hb9)
        clear hb9 hM2
        obtain ⟨g0, g1, g2, g3, g4, g5⟩ := hM.out.res.frees
        obtain ⟨r0, r1, r2, r3, r4, r5⟩ := hM.out.res.cells
        go_wp2_with fail
        obtain ⟨k1, _, k3⟩ := hM.out.fin (v' := 0) (s' := 0) (c' := 0) (h' := ⟨#[]⟩) (t' := ⟨#[]⟩) (x' := .slice none 0 0)
        show bodyPost _ _ _ _ _ (put6 w9 r 0 0 0 ⟨#[]⟩ ⟨#[]⟩ (.slice none 0 0))
        clear g0 g1 g2 g3 g4 g5 r0 r1 r2 r3 r4 r5
        obtain ⟨q0, q1, q2, q3, q4, q5⟩ := k1.cells
        obtain ⟨W, hW⟩ : ∃ W, put6 w9 r 0 0 0 ⟨#[]⟩ ⟨#[]⟩ (.slice none 0 0) = W := ⟨_, rfl⟩
        rw [hW] at q0 q1 q2 q3 q4 q5 k3 ⊢
        refine bodyPost_ret (v := .tuple #[.agg #[.int .i64 0, .int .i64 0, .int .i64 0, .string ⟨#[]⟩, .string ⟨#[]⟩, .slice none 0 0], .int .i64 1]) (by simp [results, Tryd.results9, go_sem, q0, q1, q2, q3, q4, q5]; try rfl) rfl ⟨fun h => (by rw [hN2.out] at h; cases h), fun _ => ⟨_, rfl, TxR.nil _ _, k3⟩⟩
