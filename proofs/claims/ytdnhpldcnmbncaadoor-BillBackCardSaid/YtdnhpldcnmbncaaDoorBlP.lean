/- Walk of the law BillBack. -/
import Derived.Test.YtdnhpldcnmbncaaDoorBlM
namespace Go.Proofs.YtdnhpldcnmbncaaDoor.Bi
open Go Go.RowKit Go.Proofs.YtdnhpldcnmbncaaDoor
set_option linter.all false

theorem mkL_get (c : Nat) (x : ByteArray) (m i : Nat) (h : i < m) : (mkL c x m).getD i ByteArray.empty = chT c x i := by
  simp [mkL, List.getD, h]
theorem fit_made {v c : Int} {x : ByteArray} {m i : Nat} (hn : numB v x.size c = true) (hm : cntI x.size c = (m : Int)) (hi : i < m) {C : Nat} (hC : c = (C : Int)) :
    fitI v x.size c (hashOf x.data.toList) (rootL (mkL C x m)) (mkL C x m) (i : Int) (x.extract (i * C) (min ((i + 1) * C) x.size)) = 0 := by
  have hg := mk_good hn hm
  have hCt : c.toNat = C := by omega
  rw [hCt] at hg
  obtain ⟨C', hC', z0, z1, z2, z3, z4, z5, z6, z7, z8⟩ := cutN_nat hn hm hi
  obtain rfl : C' = C := by omega
  have hcn := (cn_yes hg).1
  rw [fit_eq, if_pos ⟨by rw [mkL_len]; omega, by omega, by omega⟩, z8, z7, Int.toNat_natCast, mkL_get _ _ _ _ hi, if_pos (by rw [ByteArray.size_extract]; omega), show chT C' x i = leafH (x.extract (i * C') (min ((i + 1) * C') x.size)) from rfl, if_pos rfl]
theorem who_made {v c : Int} {x : ByteArray} {R : ByteArray} {L : List ByteArray} (hg : chkB v x.size c (hashOf x.data.toList) R L = true) : whoI v x.size c (hashOf x.data.toList) R L x = 0 := who_ok hg rfl rfl
theorem chk_short {v s c : Int} {h t : ByteArray} {L : List ByteArray} (hg : chkB v s c h t L = true) : chkB v s c h t [] = true := by
  unfold chkB at hg ⊢
  simp only [Bool.and_eq_true] at hg ⊢
  exact ⟨hg.1, hg.2.1, hg.2.2.1, rfl⟩
theorem short_bytes {v s c : Int} {h t : ByteArray} {L : List ByteArray} (hg : chkB v s c h t L = true) : bytT v s c h t [] = leafT v s c h t L := by
  rw [(bytT_yes (chk_short hg)).1, (leafT_yes hg).1]
  simp [catL]
theorem short_leaf {v s c : Int} {h t : ByteArray} {L : List ByteArray} (hg : chkB v s c h t L = true) : leafT v s c h t [] = leafT v s c h t L := by
  rw [(leafT_yes (chk_short hg)).1, (leafT_yes hg).1]
theorem fit_short (v s c : Int) (h t : ByteArray) (i : Int) (x : ByteArray) : fitI v s c h t [] i x = 1 := by
  rw [fit_eq, if_neg (fun h => h.1 rfl)]
/-- A good bill's bytes are read as it. -/
theorem rd_back {v s c : Int} {h t : ByteArray} {L : List ByteArray} (hg : chkB v s c h t L = true) (w : World) (e : Ending) (w' : World) (hr : rdIs (bytT v s c h t L).data.toList w e w') : BilIs v s c h t L 0 w e w' := by
  obtain ⟨h1, h2, h3, h4⟩ := acc_back hg
  have hl : (bytT v s c h t L).data.toList = leafL v s c h t ++ catL L := by rw [(bytT_yes hg).1]
  unfold rdIs at hr
  rw [hl, h1, h2] at hr
  have := hr.1 h4
  dsimp only at this
  rw [h3] at this
  exact this
set_option maxHeartbeats 12800000 in
set_option maxRecDepth 100000 in
theorem law_back (vn cn : Nat) (x : ByteArray) (w : World) (hK : KIs w) (hx : x.size ≤ 140737488354000) (hv : vn ≤ 255) (hc : cn ≤ 255) :
    Calls Tryd.prog 6 #[.int .u8 (vn : Int), .int .u8 (cn : Int), .string x] w fun e w' => e = .returned (.bool true) ∧ Below w.heap.size w w' := by
  have hKB := Box.mk fun w' (hx : Below w.heap.size w w') => (hK.below hx hK.lt : KIs w')
  have hbl := bills_any w hK
  obtain ⟨r, hr⟩ : ∃ r, cn % 5 = r := ⟨_, rfl⟩
  have hmod : (cn : Int).tmod 5 = (r : Int) := by rw [Int.tmod_eq_emod_of_nonneg (by omega)]; omega
  have hr5 : r < 5 := by omega
  obtain ⟨C, hsh, hCs⟩ : ∃ C : Nat, wrap64 (64 * 2 ^ r) = (C : Int) ∧ szB (C : Int) = true := by
    have : r = 0 ∨ r = 1 ∨ r = 2 ∨ r = 3 ∨ r = 4 := by omega
    rcases this with rfl | rfl | rfl | rfl | rfl
    · exact ⟨64, by unfold wrap64; omega, by decide⟩
    · exact ⟨128, by unfold wrap64; omega, by decide⟩
    · exact ⟨256, by unfold wrap64; omega, by decide⟩
    · exact ⟨512, by unfold wrap64; omega, by decide⟩
    · exact ⟨1024, by unfold wrap64; omega, by decide⟩
  obtain ⟨M, hM⟩ : ∃ M, min x.size 8192 = M := ⟨_, rfl⟩
  have hmin : min (x.size : Int) 8192 = (M : Int) := by omega
  have hMx : M ≤ x.size := by omega
  have hM2 : M ≤ 8192 := by omega
  clear hr hK
  by_cases hv0 : vn = 0
  · subst hv0
    clear hM hmin
    go_enter Tryd.func6, Tryd.ntmps6
    go_wp2_with fail
    refine hbl.mono ?_
    clear hbl
    rintro e w1 ⟨rfl, hb1⟩
    replace hb1 := Box.mk hb1
    go_wp2_with fail
    go_ret
    exact ⟨rfl, hb1.out⟩
  have hv1 : ((vn : Int) == 0) = false := by simp; omega
  by_cases hx0 : x.size = 0
  · have hx1 : x.toList.isEmpty = true := by
      rw [ByteArray.toList_eq, List.isEmpty_iff_length_eq_zero, Pk.data_len]; exact hx0
    clear hM hmin
    go_enter Tryd.func6, Tryd.ntmps6
    go_wp2_with fail
    refine hbl.mono ?_
    clear hbl
    rintro e w1 ⟨rfl, hb1⟩
    replace hb1 := Box.mk hb1
    go_wp2_with fail
    go_ret
    exact ⟨rfl, hb1.out⟩
  have hx1 : x.toList.isEmpty = false := by
    rw [ByteArray.toList_eq, ← Bool.not_eq_true, List.isEmpty_iff_length_eq_zero, Pk.data_len]; exact hx0
  have hM1 : 1 ≤ M := by omega
  obtain ⟨X, hX⟩ : ∃ X, x.extract 0 M = X := ⟨_, rfl⟩
  have hXs : X.size = M := by rw [← hX, ByteArray.size_extract]; omega
  have hn : numB (vn : Int) (X.size : Int) (C : Int) = true := num_yes ⟨by omega, by omega, by omega, by omega⟩ hCs
  obtain ⟨m, hm, hm1, hm2, hm3, hm4⟩ := cnt_nat hn
  have hg := mk_good hn hm
  have hfit := Box.mk fun i (hi : i < m) => fit_made (i := i) hn hm hi rfl
  have hcN := Box.mk fun i (hi : i < m) => cutN_nat hn hm hi
  have hMk := Box.mk fun w' hK => (make_any vn C X w' hK (by omega)).mono fun e w2 h => h.1 hn
  have hwho := Box.mk (who_made hg)
  rw [hm, Int.toNat_natCast] at hMk
  rw [Int.toNat_natCast] at hg hMk hwho
  have hll := mkL_len C X m
  have h32 := mkL_32 C X m
  have hatm : min (m * C) M = M := by
    have h1 : (M : Int) ≤ (m : Int) * (C : Int) := by rw [← hXs]; exact hm4
    have h2 : ((m * C : Nat) : Int) = (m : Int) * (C : Int) := Int.natCast_mul _ _
    omega
  rw [hXs] at hn hfit hcN hMk hg hwho
  obtain ⟨H, hH⟩ : ∃ H, hashOf X.data.toList = H := ⟨_, rfl⟩
  obtain ⟨L, hL⟩ : ∃ L, mkL C X m = L := ⟨_, rfl⟩
  rw [hH] at hfit hMk hg hwho
  rw [hL] at hfit hMk hg hwho hll h32
  obtain ⟨R, hR⟩ : ∃ R, rootL L = R := ⟨_, rfl⟩
  rw [hR] at hfit hMk hg hwho
  have hcm : cnM vn M C H R L = m := by
    have := (cn_yes hg).1
    rw [hXs] at hm
    omega
  have hIB := Box.mk (bytT_yes hg).2
  have hwho2 := Box.mk (who_made (x := X) (R := R) (L := []) (v := vn) (c := C) (by rw [hH, hXs]; exact chk_short hg))
  rw [hH, hXs] at hwho2
  have hI2 := Box.mk (bytT_yes (chk_short hg)).2
  have hsB := Box.mk (short_bytes hg)
  have hsL := Box.mk (short_leaf hg)
  have hRd := Box.mk fun w' hK => (read_any (bytT vn M C H R L) w' hK).mono fun e w2 h => rd_back hg _ e w2 h
  have hRs := Box.mk fun w' hK => (read_any (bytT vn M C H R []) w' hK).mono fun e w2 h => rd_back (chk_short hg) _ e w2 h
  rw [hsB.out] at hRs
  unfold BilIs at hMk hRd hRs
  obtain ⟨bT, hbT⟩ : ∃ T, bytT vn M C H R L = T := ⟨_, rfl⟩
  obtain ⟨lT, hlT⟩ : ∃ T, leafT vn M C H R L = T := ⟨_, rfl⟩
  rw [hbT] at hRd
  rw [hlT] at hRs hsL
  replace hbT := Box.mk hbT
  replace hlT := Box.mk hlT
  have hcsz := chk_sz hg
  have hC0 : 64 ≤ C := by omega
  have hC1 : C ≤ 1024 := by omega
  have elT : (lT.toList == lT.toList) = true := by simp
  have hllB := Box.mk hll
  have hcmB := Box.mk hcm
  have hat0 : Box (0 = min (0 * C) M) := ⟨by simp⟩
  have hatmB := Box.mk hatm
  replace hsB := Box.mk hsB.out
  clear hg hH hL hR h32 hll hcm hatm hcsz hm hn hCs hm3 hm4 hv0 hx0 hM
  go_enter Tryd.func6, Tryd.ntmps6
  go_wp2_with fail
  refine hbl.mono ?_
  clear hbl
  rintro e w1 ⟨rfl, hb1⟩
  have h1 := hMk.out w1 (hKB.out w1 hb1)
  replace hb1 := Box.mk hb1
  clear hMk
  go_wp2_with fail
  refine h1.mono ?_
  clear h1 hmod hsh hmin hx1 hv1 hX hr5
  rintro e w2 ⟨y, rfl, hT2, hb2⟩
  obtain ⟨a, k, rfl⟩ := hT2.shape
  rw [hllB.out] at hT2 ⊢
  have hX2 := bel_alloc w2 (.cells #[.int .i64 vn, .int .i64 M, .int .i64 C, .string H, .string R, .slice a m k] 25)
  have hA := BAt.new w2 vn M C H R (.slice a m k)
  have hT := Box.mk ((hT2.here hX2).base hb1.out.size)
  have hb := Box.mk (bel_of (bel_of hb1.out hb2) hX2)
  obtain ⟨w3, hw3⟩ : ∃ W, w2.alloc (.cells #[.int .i64 vn, .int .i64 M, .int .i64 C, .string H, .string R, .slice a m k] 25) = W := ⟨_, rfl⟩
  rw [hw3] at hA hT hb
  obtain ⟨g, hg⟩ : ∃ g, w2.heap.size = g := ⟨_, rfl⟩
  rw [hg] at hA
  replace hA := Box.mk hA
  have qA := Box.mk fun w' (hx : Below w3.heap.size w3 w') => (hA.out.here hx).cells
  have bW := Box.mk fun w' (hx : Below w3.heap.size w3 w') => (bel_of hb.out hx : Below w.heap.size w w')
  have hPB := Box.mk fun w' (hx : Below w3.heap.size w3 w') => txPA (hT.out.here hx) hllB.out
  have c1 := Box.mk fun w' (hx : Below w3.heap.size w3 w') => whole_any vn M C H R X a m k L w' (hPB.out w' hx) (hKB.out w' (bW.out w' hx)) (by omega)
  have c2 := Box.mk fun w' (hx : Below w3.heap.size w3 w') => bcount_any vn M C H R a m k L w' (hPB.out w' hx) (hKB.out w' (bW.out w' hx))
  rw [hwho.out] at c1
  rw [hcmB.out] at c2
  clear hT2 hb2 hX2 hb1
  go_wp2_with fail
  clear hw3 hg
  refine region_quiet (fun w' => Below w3.heap.size w3 w') (by kernel_rfl) (by kernel_rfl) (dB _) ?_
  repeat (go_big_quiet_step (first | exact fun _ => rfl | rfl))
  refine quiet_val rfl (.agg #[.int .i64 vn, .int .i64 M, .int .i64 C, .string H, .string R, .slice a m k]) (fun w' hw' => by obtain ⟨q0, q1, q2, q3, q4, q5⟩ := qA.out w' hw'; go_simp) ?_
  simp only [Act.put, List.setIfInBounds_toArray, List.set_cons_succ, List.set_cons_zero]
  repeat (go_big_quiet_step (first | exact fun _ => rfl | rfl))
  refine quiet_call rfl (.int .i64 0) (fun w' hw' => bel_call (c1.out w' hw') hw') (fun w' _ => by go_simp) ?_
  simp only [Act.put, List.setIfInBounds_toArray, List.set_cons_succ, List.set_cons_zero]
  repeat (go_big_quiet_step (first | exact fun _ => rfl | rfl))
  refine quiet_val rfl (.agg #[.int .i64 vn, .int .i64 M, .int .i64 C, .string H, .string R, .slice a m k]) (fun w' hw' => by obtain ⟨q0, q1, q2, q3, q4, q5⟩ := qA.out w' hw'; go_simp) ?_
  simp only [Act.put, List.setIfInBounds_toArray, List.set_cons_succ, List.set_cons_zero]
  repeat (go_big_quiet_step (first | exact fun _ => rfl | rfl))
  refine quiet_call rfl (.int .i64 (m : Int)) (fun w' hw' => bel_call (c2.out w' hw') hw') (fun w' _ => by go_simp) ?_
  simp only [Act.put, List.setIfInBounds_toArray, List.set_cons_succ, List.set_cons_zero]
  repeat (go_big_quiet_step (first | exact fun _ => rfl | rfl))
  refine quiet_val rfl (.slice a m k) (fun w' hw' => by obtain ⟨q0, q1, q2, q3, q4, q5⟩ := qA.out w' hw'; go_simp) ?_
  simp only [Act.put, List.setIfInBounds_toArray, List.set_cons_succ, List.set_cons_zero]
  repeat (go_big_quiet_step (first | exact fun _ => rfl | rfl))
  refine wpQuiet_nil ?_
  intro w4 hw4
  have hS0 : Box (Below w3.heap.size w3 w4) := ⟨hw4⟩
  obtain ⟨q0, q1, q2, q3, q4, q5⟩ := qA.out w4 hw4
  clear hw4 c1 c2
  go_wp2_with fail
  clear q0 q1 q2 q3 q4 q5
  go_loopw [9, 65] (fun v9 v65 wr => ∃ i j : Nat, i ≤ m ∧ v9 = .int .i64 (j : Int) ∧ v65 = .int .i64 (i : Int) ∧ Box (j = min (i * C) M) ∧ Box (Below w3.heap.size w3 wr)) (fun _ v65 _ => m - (intOf v65).toNat)
  case atStart => exact ⟨0, 0, by omega, rfl, rfl, hat0, hS0⟩
  case round =>
    clear hS0 hat0
    obtain ⟨i, j, hi, rfl, rfl, hj, hS⟩ := hrel
    obtain ⟨q0, q1, q2, q3, q4, q5⟩ := qA.out wr hS.out
    by_cases hlt : i < m
    · have hii : (i : Int) < (m : Int) := by omega
      obtain ⟨C', hC', z0, z1, z2, z3, z4, z5, z6, z7, z8⟩ := hcN.out i hlt
      obtain rfl : C' = C := by omega
      have hf := hfit.out i hlt
      have h1 := bcut_any vn M C' i H R a m k L wr (hPB.out wr hS.out) (hKB.out wr (bW.out wr hS.out))
      rw [hcmB.out, cut_yes ⟨by omega, hii⟩, z7, z8] at h1
      dsimp only at h1
      have hlt2 : i * C' < min ((i + 1) * C') M := by
        have : (i + 1) * C' = i * C' + C' := by rw [Nat.add_mul, Nat.one_mul]
        omega
      have hjF : j = i * C' := by rw [hj.out]; omega
      have hnx : Box (min ((i + 1) * C') M = min ((i + 1) * C') M) := ⟨rfl⟩
      obtain ⟨F, hF⟩ : ∃ F, i * C' = F := ⟨_, rfl⟩
      obtain ⟨T, hT⟩ : ∃ T, min ((i + 1) * C') M = T := ⟨_, rfl⟩
      rw [hF] at h1 hf hjF hlt2 z4
      rw [hT] at h1 hf hlt2 z4 z5
      subst hjF
      have hTB : Box (T = min ((i + 1) * C') M) := ⟨hT.symm⟩
      have c3 := Box.mk fun w' (hx : Below w3.heap.size w3 w') => fits_any vn M C' i H R (X.extract j T) a m k L w' (hPB.out w' hx) (hKB.out w' (bW.out w' hx)) (by rw [ByteArray.size_extract]; omega)
      rw [hf] at c3
      have b1 : ((j : Int) != (j : Int)) = false := by simp
      have b2 : decide (T ≤ j) = false := by simp; omega
      have b3 : decide (M < T) = false := by simp; omega
      clear hC' z0 z1 z2 z3 z6 z7 z8 hf hF hT hj hnx
      go_wp2_with fail
      refine h1.mono ?_
      clear h1 q0 q1 q2 q3 q4 q5
      rintro e w5 ⟨rfl, hb5⟩
      have hS5 := Box.mk (bel_of hS.out hb5)
      have up := Box.mk fun w' (hx : Below w5.heap.size w5 w') => (bel_of hS5.out hx : Below w3.heap.size w3 w')
      clear hb5 hS
      go_wp2_with fail
      refine region_quiet (fun w' => Below w5.heap.size w5 w') (by kernel_rfl) (by kernel_rfl) (dB _) ?_
      repeat (go_big_quiet_step (first | exact fun _ => rfl | rfl))
      refine quiet_val rfl (.agg #[.int .i64 vn, .int .i64 M, .int .i64 C', .string H, .string R, .slice a m k]) (fun w' hw' => by obtain ⟨q0, q1, q2, q3, q4, q5⟩ := qA.out w' (up.out w' hw'); go_simp) ?_
      simp only [Act.put, List.setIfInBounds_toArray, List.set_cons_succ, List.set_cons_zero]
      repeat (go_big_quiet_step (first | exact fun _ => rfl | rfl))
      refine quiet_call rfl (.int .i64 0) (fun w' hw' => bel_call (c3.out w' (up.out w' hw')) hw') (fun w' _ => by go_simp) ?_
      simp only [Act.put, List.setIfInBounds_toArray, List.set_cons_succ, List.set_cons_zero]
      repeat (go_big_quiet_step (first | exact fun _ => rfl | rfl))
      refine wpQuiet_nil ?_
      intro w6 hw6
      have hS6 := Box.mk (up.out w6 hw6)
      clear hw6 c3 up hS5
      go_wp2_with fail
      exact ⟨⟨i + 1, T, by omega, rfl, by go_num, hTB, hS6⟩, by simp [intOf]; omega⟩
    · obtain rfl : i = m := by omega
      have hnl : ¬ (i : Int) < (i : Int) := by omega
      have hjM : j = M := by rw [hj.out, hatmB.out]
      subst hjM
      have h1 := bbytes_any vn j C H R a i k L wr (hPB.out wr hS.out) (hKB.out wr (bW.out wr hS.out))
      rw [hbT.out, hIB.out] at h1
      clear hj hfit hcN
      go_wp2_with fail
      refine h1.mono ?_
      clear h1 q0 q1 q2 q3 q4 q5
      rintro e w10 ⟨rfl, hb10⟩
      replace hS := Box.mk (bel_of hS.out hb10)
      clear hb10
      have h1 := hRd.out w10 (hKB.out w10 (bW.out w10 hS.out))
      clear hRd
      go_wp2_with fail
      refine h1.mono ?_
      clear h1
      rintro e w11 ⟨y2, rfl, hT11, hb11⟩
      obtain ⟨a2, k2, rfl⟩ := hT11.shape
      rw [hllB.out] at hT11 ⊢
      have hX11 := bel_alloc w11 (.cells #[.int .i64 vn, .int .i64 j, .int .i64 C, .string H, .string R, .slice a2 i k2] 25)
      have hA12 := BAt.new w11 vn j C H R (.slice a2 i k2)
      have hT12 := Box.mk (hT11.here hX11)
      have hS12 := Box.mk (bel_of (bel_of hS.out hb11) hX11)
      obtain ⟨q0, q1, q2, q3, q4, q5⟩ := qA.out _ hS12.out
      have h1 := bleaf_any vn j C H R a i k L _ (hPB.out _ hS12.out) (hKB.out _ (bW.out _ hS12.out))
      rw [hlT.out, hIB.out] at h1
      obtain ⟨g2, hg2⟩ : ∃ g, w11.heap.size = g := ⟨_, rfl⟩
      rw [hg2] at hA12
      replace hA12 := Box.mk hA12
      clear hT11 hX11 hb11 hS
      go_wp2_with fail
      refine h1.mono ?_
      clear h1 q0 q1 q2 q3 q4 q5 hg2
      rintro e w13 ⟨rfl, hb13⟩
      have hA13 := Box.mk (hA12.out.here hb13)
      have hT13 := Box.mk (hT12.out.here hb13)
      have hS13 := Box.mk (bel_of hS12.out hb13)
      clear hb13 hA12 hT12 hS12
      have h1 := hRs.out w13 (hKB.out w13 (bW.out w13 hS13.out))
      clear hRs
      go_wp2_with fail
      refine h1.mono ?_
      clear h1
      rintro e w14 ⟨y3, rfl, hT14, hb14⟩
      obtain ⟨a3, k3, rfl⟩ := hT14.shape
      simp only [List.length_nil] at hT14 ⊢
      have hX14 := bel_alloc w14 (.cells #[.int .i64 vn, .int .i64 j, .int .i64 C, .string H, .string R, .slice a3 0 k3] 25)
      have hP15 := txPA (hT14.here hX14) rfl
      have hS15 := bel_of (bel_of hS13.out hb14) hX14
      have hA15 := (hA13.out.here hb14).here hX14
      have hT15 := (hT13.out.here hb14).here hX14
      have hB15 := BAt.new w14 vn j C H R (.slice a3 0 k3)
      have h1 := bleaf_any vn j C H R a3 0 k3 [] _ hP15 (hKB.out _ (bW.out _ hS15))
      rw [hsL.out, hI2.out] at h1
      obtain ⟨g3, hg3⟩ : ∃ g, w14.heap.size = g := ⟨_, rfl⟩
      rw [hg3] at hB15
      replace hP15 := Box.mk hP15
      replace hS15 := Box.mk hS15
      replace hA15 := Box.mk hA15
      replace hT15 := Box.mk hT15
      replace hB15 := Box.mk hB15
      clear hT14 hX14 hb14 hA13 hT13 hS13
      go_wp2_with fail
      refine h1.mono ?_
      clear h1 hg3
      rintro e w16 ⟨rfl, hb16⟩
      replace hP15 := Box.mk (hP15.out.here hb16)
      replace hA15 := Box.mk (hA15.out.here hb16)
      replace hT15 := Box.mk (hT15.out.here hb16)
      replace hB15 := Box.mk (hB15.out.here hb16)
      replace hS15 := Box.mk (bel_of hS15.out hb16)
      clear hb16
      obtain ⟨q0, q1, q2, q3, q4, q5⟩ := qA.out _ hS15.out
      obtain ⟨r0, r1, r2, r3, r4, r5⟩ := hA15.out.cells
      obtain ⟨s0, s1, s2, s3, s4, s5⟩ := hB15.out.cells
      have h1 := same15_any vn j C H R (.slice a2 i k2) (.slice a i k) L w16 hT15.out.parts (hPB.out w16 hS15.out).parts (by rw [hllB.out]; unfold maxLen; omega)
      clear hA15 hT15
      go_wp2_with fail
      refine h1.mono ?_
      clear h1 q0 q1 q2 q3 q4 q5 r0 r1 r2 r3 r4 r5 s0 s1 s2 s3 s4 s5
      rintro e w17 ⟨rfl, hb17⟩
      replace hP15 := Box.mk (hP15.out.here hb17)
      replace hB15 := Box.mk (hB15.out.here hb17)
      replace hS15 := Box.mk (bel_of hS15.out hb17)
      clear hb17
      obtain ⟨s0, s1, s2, s3, s4, s5⟩ := hB15.out.cells
      have h1 := whole_any vn j C H R X a3 0 k3 [] w17 hP15.out (hKB.out _ (bW.out _ hS15.out)) (by omega)
      rw [hwho2.out] at h1
      go_wp2_with fail
      refine h1.mono ?_
      clear h1 s0 s1 s2 s3 s4 s5
      rintro e w18 ⟨rfl, hb18⟩
      replace hP15 := Box.mk (hP15.out.here hb18)
      replace hB15 := Box.mk (hB15.out.here hb18)
      replace hS15 := Box.mk (bel_of hS15.out hb18)
      clear hb18
      obtain ⟨s0, s1, s2, s3, s4, s5⟩ := hB15.out.cells
      have h1 := fits_any vn j C 0 H R X a3 0 k3 [] w18 hP15.out (hKB.out _ (bW.out _ hS15.out)) (by omega)
      rw [fit_short] at h1
      go_wp2_with fail
      refine h1.mono ?_
      clear h1 s0 s1 s2 s3 s4 s5
      rintro e w19 ⟨rfl, hb19⟩
      have hfin := Box.mk (bW.out w19 (bel_of hS15.out hb19))
      go_wp2_with fail
      go_ret
      exact ⟨rfl, hfin.out⟩
end Go.Proofs.YtdnhpldcnmbncaaDoor.Bi
