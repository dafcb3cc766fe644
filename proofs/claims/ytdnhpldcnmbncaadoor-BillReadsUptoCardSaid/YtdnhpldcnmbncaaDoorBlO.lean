/- Walk of the law BillReads. -/
import Derived.Test.YtdnhpldcnmbncaaDoorBlM
namespace Go.Proofs.YtdnhpldcnmbncaaDoor.Bi
open Go Go.RowKit Go.Proofs.YtdnhpldcnmbncaaDoor
set_option linter.all false

theorem rd_one (x : ByteArray) : ∃ (V S C : Int) (H T : ByteArray) (L : List ByteArray) (er : Int), Fit L ∧ L.length ≤ 128 ∧ (er = 0 → chkI V S C H T L = 0 ∧ bytT V S C H T L = x) ∧ ∀ w e w', rdIs x.data.toList w e w' → BilIs V S C H T L er w e w' := by
  cases hn : acc (hdR x.data.toList) (kP (hdR x.data.toList)) with
  | true =>
    obtain ⟨h1, h2⟩ := acc_told _ _ hn
    have h3 : chkI (hdR x.data.toList).v (hdR x.data.toList).s (hdR x.data.toList).c (hdR x.data.toList).h (hdR x.data.toList).t (hsR (kP (hdR x.data.toList)) (hdR x.data.toList).l (hdR x.data.toList).e).1 = 0 := by unfold chkI; rw [h1]; rfl
    exact ⟨_, _, _, _, _, _, 0, fit32 (chk_all h1).1, (chk_all h1).2, fun _ => ⟨h3, h2⟩, fun w e w' h => h.1 hn⟩
  | false => exact ⟨0, 0, 0, ⟨#[]⟩, ⟨#[]⟩, [], 3, fun y hy => (by cases hy), Nat.zero_le _, fun h => (by cases h), fun w e w' h => h.2 hn⟩
set_option maxHeartbeats 12800000 in
set_option maxRecDepth 100000 in
theorem law_reads (x : ByteArray) (v s c i : Int) (h t : ByteArray) (a : Option Addr) (n k : Nat) (l : List ByteArray) (w : World) (hP : PA w a n k l) (hF : Fit l) (hK : KIs w) :
    Calls Tryd.prog 4 #[.string x, .agg #[.int .i64 v, .int .i64 s, .int .i64 c, .string h, .string t, .slice a n k], .int .i64 i] w fun e w' => e = .returned (.bool true) ∧ Below w.heap.size w w' := by
  have hKB := Box.mk fun w' (hx : Below w.heap.size w w') => (hK.below hx hK.lt : KIs w')
  obtain ⟨N, hN⟩ : ∃ N, min n 300 = N := ⟨_, rfl⟩
  have hmin : min (n : Int) 300 = (N : Int) := by omega
  have hNn : N ≤ n := by omega
  have hlen := hP.len
  have hcap := hP.cap
  have htop := hP.top
  obtain ⟨L, hL⟩ : ∃ L, l.take N = L := ⟨_, rfl⟩
  have hPB := Box.mk fun w' (hb : Below w.heap.size w w') => (hL ▸ (hP.here hb).take hNn : PA w' a N k L)
  have hFt := Box.mk (hL ▸ hF.take N : Fit L)
  replace hlen := Box.mk hlen
  clear hN hL hP hF
  obtain ⟨V, S, C, H, T, Lr, er, hrF, hr128, hr0, hone⟩ := rd_one x
  have hb := bel_alloc w (.cells #[.int .i64 v, .int .i64 s, .int .i64 c, .string h, .string t, .slice a n k] 25)
  have hA := BAt.new w v s c h t (.slice a n k)
  obtain ⟨w1, hw1⟩ : ∃ W, w.alloc (.cells #[.int .i64 v, .int .i64 s, .int .i64 c, .string h, .string t, .slice a n k] 25) = W := ⟨_, rfl⟩
  rw [hw1] at hb hA
  obtain ⟨b, hbe⟩ : ∃ b, w.heap.size = b := ⟨_, rfl⟩
  rw [hbe] at hA
  obtain ⟨q0, q1, q2, q3, q4, q5⟩ := hA.cells
  replace hb := Box.mk hb
  replace hA := Box.mk hA
  have h1 := bills_any w1 (hKB.out w1 hb.out)
  have gR := Box.mk fun w' (hb : Below w.heap.size w w') => (read_any x w' (hKB.out w' hb)).mono fun e w2 h => hone w' e w2 h
  have gD := Box.mk fun w' => (rread_any x w').mono fun e w2 h => hone w' e w2 h
  have cB := Box.mk fun w' (hb : Below w.heap.size w w') => bbytes_any v s c h t a N k L w' (hPB.out w' hb) (hKB.out w' hb)
  have rB := Box.mk fun w' (hb : Below w.heap.size w w') => rbytes_any v s c h t a N k L w' (hPB.out w' hb) hFt.out
  have cL := Box.mk fun w' (hb : Below w.heap.size w w') => bleaf_any v s c h t a N k L w' (hPB.out w' hb) (hKB.out w' hb)
  have rL := Box.mk fun w' (hb : Below w.heap.size w w') => rleaf15_any v s c h t a N k L w' (hPB.out w' hb) hFt.out
  have cC := Box.mk fun w' (hb : Below w.heap.size w w') => bcut_any v s c i h t a N k L w' (hPB.out w' hb) (hKB.out w' hb)
  have rC := Box.mk fun w' (hb : Below w.heap.size w w') => rcut_any v s c i h t a N k L w' (hPB.out w' hb) hFt.out
  have cK := Box.mk fun w' (hb : Below w.heap.size w w') => check_any v s c h t a N k L w' (hPB.out w' hb) (hKB.out w' hb)
  have rK := Box.mk fun w' (hb : Below w.heap.size w w') => rcheck_any v s c h t a N k L w' (hPB.out w' hb) hFt.out
  have cN := Box.mk fun w' (hb : Below w.heap.size w w') => bcount_any v s c h t a N k L w' (hPB.out w' hb) (hKB.out w' hb)
  have rN := Box.mk fun w' (hb : Below w.heap.size w w') => rcount_any v s c h t a N k L w' (hPB.out w' hb) hFt.out
  obtain ⟨lT, hlT⟩ : ∃ T, leafT v s c h t L = T := ⟨_, rfl⟩
  obtain ⟨bT, hbT⟩ : ∃ T, bytT v s c h t L = T := ⟨_, rfl⟩
  obtain ⟨cI, hcI⟩ : ∃ I, chkI v s c h t L = I := ⟨_, rfl⟩
  obtain ⟨m, hm⟩ : ∃ m, cnM v s c h t L = m := ⟨_, rfl⟩
  rw [hm] at cC rC cN rN
  obtain ⟨⟨p0, p1⟩, hcp⟩ : ∃ p, cutP s c m i = p := ⟨_, rfl⟩
  rw [hcp] at cC rC
  dsimp only at cC rC
  rw [hlT, hcI] at cL rL
  rw [hbT, hcI] at cB rB
  rw [hcI] at cK rK
  have e1 : (cI == cI) = true := by simp
  have e2 : (m == m) = true := by simp
  have e3 : (lT.toList == lT.toList) = true := by simp
  have e4 : (bT.toList == bT.toList) = true := by simp
  have e5 : (p0 == p0) = true := by simp
  have e6 : (p1 == p1) = true := by simp
  have hee : (er != er) = false := by simp
  have exx : (x.toList == x.toList) = true := by simp
  obtain ⟨rn, hrn⟩ : ∃ n, Lr.length = n := ⟨_, rfl⟩
  rw [hrn] at hr128
  have hrnB := Box.mk hrn
  have hr0B := Box.mk hr0
  have hrFB := Box.mk hrF
  have hmn : Box (m ≤ 128 ∨ True) := ⟨.inr trivial⟩
  unfold BilIs at gR gD
  clear hlT hbT hcI hm hcp hK hone hrn hr0 hrF hmn
  go_enter Tryd.func4, Tryd.ntmps4
  go_wp2_with fail
  refine h1.mono ?_
  clear h1
  rintro e w2 ⟨rfl, hb2⟩
  replace hA := Box.mk (hA.out.here hb2)
  replace hb := Box.mk (mono_bel hb.out hb2 (Nat.le_refl _))
  clear hb2 q0 q1 q2 q3 q4 q5
  try clear hw1
  obtain ⟨q0, q1, q2, q3, q4, q5⟩ := hA.out.cells
  obtain ⟨f0, f1, f2, f3, f4, f5⟩ := hA.out.frees
  obtain ⟨hA2, hc2⟩ := hA.out.put5 (.slice a N k)
  have hb3 := Box.mk (hb.out.trans (hc2.below hb.out.size fun i hi => by have hi : i = b := hi; omega))
  obtain ⟨w3, hw3⟩ : ∃ W, w2.setCell ⟨b, 5, none⟩ (.slice a N k) = W := ⟨_, rfl⟩
  rw [hw3] at hA2 hb3
  have h1 := gR.out w3 hb3.out
  clear hA hc2 hb q0 q1 q2 q3 q4 f0 f1 f2 f3 f4
  go_wp2_with fail
  refine h1.mono ?_
  clear h1 gR hw3 f5 q5
  rintro e w4 ⟨y1, rfl, hT4, hb4⟩
  obtain ⟨a1, k1, rfl⟩ := hT4.shape
  rw [hrnB.out] at hT4 ⊢
  have hA5 := BAt.new w4 V S C H T (.slice a1 rn k1)
  have hX5 := bel_alloc w4 (.cells #[.int .i64 V, .int .i64 S, .int .i64 C, .string H, .string T, .slice a1 rn k1] 25)
  have hT5 := (hT4.here hX5).base hb3.out.size
  have hA4 := (hA2.here hb4).here hX5
  have hb5 := bel_of (bel_of hb3.out hb4) hX5
  have h1 := gD.out (w4.alloc (.cells #[.int .i64 V, .int .i64 S, .int .i64 C, .string H, .string T, .slice a1 rn k1] 25))
  obtain ⟨w5, hw5⟩ : ∃ W, w4.alloc (.cells #[.int .i64 V, .int .i64 S, .int .i64 C, .string H, .string T, .slice a1 rn k1] 25) = W := ⟨_, rfl⟩
  rw [hw5] at hA5 hT5 hA4 hb5
  obtain ⟨ga, hga⟩ : ∃ g, w4.heap.size = g := ⟨_, rfl⟩
  rw [hga] at hA5
  replace hA5 := Box.mk hA5
  replace hT5 := Box.mk hT5
  replace hA4 := Box.mk hA4
  replace hb5 := Box.mk hb5
  have hw5B := Box.mk hw5
  clear hT4 hX5 hb4 hw5 hA2 hb3 gD
  go_wp2_with fail
  refine h1.mono ?_
  clear h1
  rw [hw5B.out]
  clear hw5B hga
  rintro e w6 ⟨y2, rfl, hT6, hb6⟩
  obtain ⟨a2, k2, rfl⟩ := hT6.shape
  rw [hrnB.out] at hT6 ⊢
  have hX7 := bel_alloc w6 (.cells #[.int .i64 V, .int .i64 S, .int .i64 C, .string H, .string T, .slice a2 rn k2] 25)
  have hA7 := (hA4.out.here hb6).here hX7
  have hB7 := (hA5.out.here hb6).here hX7
  have hT7 := (hT5.out.here hb6).here hX7
  have hU7 := hT6.here hX7
  have hb7 := bel_of (bel_of hb5.out hb6) hX7
  have h1 := same15_any V S C H T (.slice a1 rn k1) (.slice a2 rn k2) Lr _ hT7.parts hU7.parts (by rw [hrnB.out]; unfold maxLen; omega)
  obtain ⟨q0, q1, q2, q3, q4, q5⟩ := hB7.cells
  replace hA7 := Box.mk hA7
  replace hB7 := Box.mk hB7
  replace hT7 := Box.mk hT7
  replace hb7 := Box.mk hb7
  clear hT6 hX7 hb6 hA4 hA5 hT5 hU7 hb5
  go_wp2_with fail
  refine h1.mono ?_
  clear h1 q0 q1 q2 q3 q4 q5
  rintro e w8 ⟨rfl, hb8⟩
  have hA := Box.mk (hA7.out.here hb8)
  have hB := Box.mk (hB7.out.here hb8)
  have hT8 := Box.mk (hT7.out.here hb8)
  have hb := Box.mk (bel_of hb7.out hb8)
  clear hb8 hA7 hB7 hT7 hb7
  by_cases he0 : er = 0
  · obtain ⟨r1, r2⟩ := hr0B.out he0
    have hE : (er == 0) = true := by simpa using he0
    have h1 := bbytes_any V S C H T a1 rn k1 Lr w8 (txPA hT8.out hrnB.out) (hKB.out w8 hb.out)
    rw [r1, r2] at h1
    obtain ⟨q0, q1, q2, q3, q4, q5⟩ := hB.out.cells
    clear r1 r2 he0 hr0B
    go_wp2_with fail
    refine h1.mono ?_
    clear h1 q0 q1 q2 q3 q4 q5
    rintro e w9 ⟨rfl, hb9⟩
    replace hA := Box.mk (hA.out.here hb9)
    replace hb := Box.mk (bel_of hb.out hb9)
    clear hb9 hB hT8
    obtain ⟨q0, q1, q2, q3, q4, q5⟩ := hA.out.cells
    have h1 := cB.out w9 hb.out

    go_wp2_with fail
    refine h1.mono ?_
    clear h1 q0 q1 q2 q3 q4 q5
    rintro e z1 ⟨rfl, hb5⟩
    replace hA := Box.mk (hA.out.here hb5)
    replace hb := Box.mk (bel_of hb.out hb5)
    clear hb5
    obtain ⟨q0, q1, q2, q3, q4, q5⟩ := hA.out.cells
    have h1 := rB.out z1 hb.out

    go_wp2_with fail
    refine h1.mono ?_
    clear h1 q0 q1 q2 q3 q4 q5
    rintro e z2 ⟨rfl, hb5⟩
    replace hA := Box.mk (hA.out.here hb5)
    replace hb := Box.mk (bel_of hb.out hb5)
    clear hb5
    obtain ⟨q0, q1, q2, q3, q4, q5⟩ := hA.out.cells
    have h1 := cL.out z2 hb.out

    go_wp2_with fail
    refine h1.mono ?_
    clear h1 q0 q1 q2 q3 q4 q5
    rintro e z3 ⟨rfl, hb5⟩
    replace hA := Box.mk (hA.out.here hb5)
    replace hb := Box.mk (bel_of hb.out hb5)
    clear hb5
    obtain ⟨q0, q1, q2, q3, q4, q5⟩ := hA.out.cells
    have h1 := rL.out z3 hb.out

    go_wp2_with fail
    refine h1.mono ?_
    clear h1 q0 q1 q2 q3 q4 q5
    rintro e z4 ⟨rfl, hb5⟩
    replace hA := Box.mk (hA.out.here hb5)
    replace hb := Box.mk (bel_of hb.out hb5)
    clear hb5
    obtain ⟨q0, q1, q2, q3, q4, q5⟩ := hA.out.cells
    have h1 := cC.out z4 hb.out

    go_wp2_with fail
    refine h1.mono ?_
    clear h1 q0 q1 q2 q3 q4 q5
    rintro e z5 ⟨rfl, hb5⟩
    replace hA := Box.mk (hA.out.here hb5)
    replace hb := Box.mk (bel_of hb.out hb5)
    clear hb5
    obtain ⟨q0, q1, q2, q3, q4, q5⟩ := hA.out.cells
    have h1 := rC.out z5 hb.out

    go_wp2_with fail
    refine h1.mono ?_
    clear h1 q0 q1 q2 q3 q4 q5
    rintro e z6 ⟨rfl, hb5⟩
    replace hA := Box.mk (hA.out.here hb5)
    replace hb := Box.mk (bel_of hb.out hb5)
    clear hb5
    obtain ⟨q0, q1, q2, q3, q4, q5⟩ := hA.out.cells
    have qA := Box.mk fun w' (hx : Below z6.heap.size z6 w') => (hA.out.here hx).cells
    have bW := Box.mk fun w' (hx : Below z6.heap.size z6 w') => (bel_of hb.out hx : Below w.heap.size w w')
    clear hA q0 q1 q2 q3 q4 q5
    go_wp2_with fail
    refine region_quiet (fun w' => Below z6.heap.size z6 w') (by kernel_rfl) (by kernel_rfl) (dB _) ?_
    repeat (go_big_quiet_step (first | exact fun _ => rfl | rfl))
    refine quiet_val rfl (.agg #[.int .i64 v, .int .i64 s, .int .i64 c, .string h, .string t, .slice a N k]) (fun w' hw' => by obtain ⟨q0, q1, q2, q3, q4, q5⟩ := qA.out w' hw'; go_simp) ?_
    simp only [Act.put, List.setIfInBounds_toArray, List.set_cons_succ, List.set_cons_zero]
    repeat (go_big_quiet_step (first | exact fun _ => rfl | rfl))
    refine quiet_call rfl (.int .i64 cI) (fun w' hw' => bel_call (cK.out w' (bW.out w' hw')) hw') (fun w' _ => by go_simp) ?_
    simp only [Act.put, List.setIfInBounds_toArray, List.set_cons_succ, List.set_cons_zero]
    repeat (go_big_quiet_step (first | exact fun _ => rfl | rfl))
    refine quiet_val rfl (.agg #[.int .i64 v, .int .i64 s, .int .i64 c, .string h, .string t, .slice a N k]) (fun w' hw' => by obtain ⟨q0, q1, q2, q3, q4, q5⟩ := qA.out w' hw'; go_simp) ?_
    simp only [Act.put, List.setIfInBounds_toArray, List.set_cons_succ, List.set_cons_zero]
    repeat (go_big_quiet_step (first | exact fun _ => rfl | rfl))
    refine quiet_call rfl (.int .i64 cI) (fun w' hw' => bel_call (rK.out w' (bW.out w' hw')) hw') (fun w' _ => by go_simp) ?_
    simp only [Act.put, List.setIfInBounds_toArray, List.set_cons_succ, List.set_cons_zero]
    repeat (go_big_quiet_step (first | exact fun _ => rfl | rfl))
    refine quiet_val rfl (.agg #[.int .i64 v, .int .i64 s, .int .i64 c, .string h, .string t, .slice a N k]) (fun w' hw' => by obtain ⟨q0, q1, q2, q3, q4, q5⟩ := qA.out w' hw'; go_simp) ?_
    simp only [Act.put, List.setIfInBounds_toArray, List.set_cons_succ, List.set_cons_zero]
    repeat (go_big_quiet_step (first | exact fun _ => rfl | rfl))
    refine quiet_call rfl (.int .i64 (m : Int)) (fun w' hw' => bel_call (cN.out w' (bW.out w' hw')) hw') (fun w' _ => by go_simp) ?_
    simp only [Act.put, List.setIfInBounds_toArray, List.set_cons_succ, List.set_cons_zero]
    repeat (go_big_quiet_step (first | exact fun _ => rfl | rfl))
    refine quiet_val rfl (.agg #[.int .i64 v, .int .i64 s, .int .i64 c, .string h, .string t, .slice a N k]) (fun w' hw' => by obtain ⟨q0, q1, q2, q3, q4, q5⟩ := qA.out w' hw'; go_simp) ?_
    simp only [Act.put, List.setIfInBounds_toArray, List.set_cons_succ, List.set_cons_zero]
    repeat (go_big_quiet_step (first | exact fun _ => rfl | rfl))
    refine quiet_call rfl (.int .i64 (m : Int)) (fun w' hw' => bel_call (rN.out w' (bW.out w' hw')) hw') (fun w' _ => by go_simp) ?_
    simp only [Act.put, List.setIfInBounds_toArray, List.set_cons_succ, List.set_cons_zero]
    repeat (go_big_quiet_step (first | exact fun _ => rfl | rfl))
    refine wpQuiet_nil ?_
    intro w4 hw4
    have hfin := Box.mk (bW.out w4 hw4)
    go_wp2_with fail
    go_ret
    exact ⟨rfl, by first | exact hfin.out | exact hbe ▸ hfin.out⟩
  · have hE : (er == 0) = false := by simpa using he0
    clear he0 hr0B hB hT8
    obtain ⟨q0, q1, q2, q3, q4, q5⟩ := hA.out.cells
    have h1 := cB.out w8 hb.out

    go_wp2_with fail
    refine h1.mono ?_
    clear h1 q0 q1 q2 q3 q4 q5
    rintro e z1 ⟨rfl, hb5⟩
    replace hA := Box.mk (hA.out.here hb5)
    replace hb := Box.mk (bel_of hb.out hb5)
    clear hb5
    obtain ⟨q0, q1, q2, q3, q4, q5⟩ := hA.out.cells
    have h1 := rB.out z1 hb.out

    go_wp2_with fail
    refine h1.mono ?_
    clear h1 q0 q1 q2 q3 q4 q5
    rintro e z2 ⟨rfl, hb5⟩
    replace hA := Box.mk (hA.out.here hb5)
    replace hb := Box.mk (bel_of hb.out hb5)
    clear hb5
    obtain ⟨q0, q1, q2, q3, q4, q5⟩ := hA.out.cells
    have h1 := cL.out z2 hb.out

    go_wp2_with fail
    refine h1.mono ?_
    clear h1 q0 q1 q2 q3 q4 q5
    rintro e z3 ⟨rfl, hb5⟩
    replace hA := Box.mk (hA.out.here hb5)
    replace hb := Box.mk (bel_of hb.out hb5)
    clear hb5
    obtain ⟨q0, q1, q2, q3, q4, q5⟩ := hA.out.cells
    have h1 := rL.out z3 hb.out

    go_wp2_with fail
    refine h1.mono ?_
    clear h1 q0 q1 q2 q3 q4 q5
    rintro e z4 ⟨rfl, hb5⟩
    replace hA := Box.mk (hA.out.here hb5)
    replace hb := Box.mk (bel_of hb.out hb5)
    clear hb5
    obtain ⟨q0, q1, q2, q3, q4, q5⟩ := hA.out.cells
    have h1 := cC.out z4 hb.out

    go_wp2_with fail
    refine h1.mono ?_
    clear h1 q0 q1 q2 q3 q4 q5
    rintro e z5 ⟨rfl, hb5⟩
    replace hA := Box.mk (hA.out.here hb5)
    replace hb := Box.mk (bel_of hb.out hb5)
    clear hb5
    obtain ⟨q0, q1, q2, q3, q4, q5⟩ := hA.out.cells
    have h1 := rC.out z5 hb.out

    go_wp2_with fail
    refine h1.mono ?_
    clear h1 q0 q1 q2 q3 q4 q5
    rintro e z6 ⟨rfl, hb5⟩
    replace hA := Box.mk (hA.out.here hb5)
    replace hb := Box.mk (bel_of hb.out hb5)
    clear hb5
    obtain ⟨q0, q1, q2, q3, q4, q5⟩ := hA.out.cells
    have qA := Box.mk fun w' (hx : Below z6.heap.size z6 w') => (hA.out.here hx).cells
    have bW := Box.mk fun w' (hx : Below z6.heap.size z6 w') => (bel_of hb.out hx : Below w.heap.size w w')
    clear hA q0 q1 q2 q3 q4 q5
    go_wp2_with fail
    refine region_quiet (fun w' => Below z6.heap.size z6 w') (by kernel_rfl) (by kernel_rfl) (dB _) ?_
    repeat (go_big_quiet_step (first | exact fun _ => rfl | rfl))
    refine quiet_val rfl (.agg #[.int .i64 v, .int .i64 s, .int .i64 c, .string h, .string t, .slice a N k]) (fun w' hw' => by obtain ⟨q0, q1, q2, q3, q4, q5⟩ := qA.out w' hw'; go_simp) ?_
    simp only [Act.put, List.setIfInBounds_toArray, List.set_cons_succ, List.set_cons_zero]
    repeat (go_big_quiet_step (first | exact fun _ => rfl | rfl))
    refine quiet_call rfl (.int .i64 cI) (fun w' hw' => bel_call (cK.out w' (bW.out w' hw')) hw') (fun w' _ => by go_simp) ?_
    simp only [Act.put, List.setIfInBounds_toArray, List.set_cons_succ, List.set_cons_zero]
    repeat (go_big_quiet_step (first | exact fun _ => rfl | rfl))
    refine quiet_val rfl (.agg #[.int .i64 v, .int .i64 s, .int .i64 c, .string h, .string t, .slice a N k]) (fun w' hw' => by obtain ⟨q0, q1, q2, q3, q4, q5⟩ := qA.out w' hw'; go_simp) ?_
    simp only [Act.put, List.setIfInBounds_toArray, List.set_cons_succ, List.set_cons_zero]
    repeat (go_big_quiet_step (first | exact fun _ => rfl | rfl))
    refine quiet_call rfl (.int .i64 cI) (fun w' hw' => bel_call (rK.out w' (bW.out w' hw')) hw') (fun w' _ => by go_simp) ?_
    simp only [Act.put, List.setIfInBounds_toArray, List.set_cons_succ, List.set_cons_zero]
    repeat (go_big_quiet_step (first | exact fun _ => rfl | rfl))
    refine quiet_val rfl (.agg #[.int .i64 v, .int .i64 s, .int .i64 c, .string h, .string t, .slice a N k]) (fun w' hw' => by obtain ⟨q0, q1, q2, q3, q4, q5⟩ := qA.out w' hw'; go_simp) ?_
    simp only [Act.put, List.setIfInBounds_toArray, List.set_cons_succ, List.set_cons_zero]
    repeat (go_big_quiet_step (first | exact fun _ => rfl | rfl))
    refine quiet_call rfl (.int .i64 (m : Int)) (fun w' hw' => bel_call (cN.out w' (bW.out w' hw')) hw') (fun w' _ => by go_simp) ?_
    simp only [Act.put, List.setIfInBounds_toArray, List.set_cons_succ, List.set_cons_zero]
    repeat (go_big_quiet_step (first | exact fun _ => rfl | rfl))
    refine quiet_val rfl (.agg #[.int .i64 v, .int .i64 s, .int .i64 c, .string h, .string t, .slice a N k]) (fun w' hw' => by obtain ⟨q0, q1, q2, q3, q4, q5⟩ := qA.out w' hw'; go_simp) ?_
    simp only [Act.put, List.setIfInBounds_toArray, List.set_cons_succ, List.set_cons_zero]
    repeat (go_big_quiet_step (first | exact fun _ => rfl | rfl))
    refine quiet_call rfl (.int .i64 (m : Int)) (fun w' hw' => bel_call (rN.out w' (bW.out w' hw')) hw') (fun w' _ => by go_simp) ?_
    simp only [Act.put, List.setIfInBounds_toArray, List.set_cons_succ, List.set_cons_zero]
    repeat (go_big_quiet_step (first | exact fun _ => rfl | rfl))
    refine wpQuiet_nil ?_
    intro w4 hw4
    have hfin := Box.mk (bW.out w4 hw4)
    go_wp2_with fail
    go_ret
    exact ⟨rfl, by first | exact hfin.out | exact hbe ▸ hfin.out⟩
end Go.Proofs.YtdnhpldcnmbncaaDoor.Bi
