/- Bills: cut of the program; Cut, Fits, Whole of both. -/
import Derived.Test.YtdnhpldcnmbncaaDoorBlB
import Derived.Test.YtdnhpldcnmbncaaDoorQz
import Derived.Test.YtdnhpldcnmbncaaDoorHas
namespace Go.Proofs.YtdnhpldcnmbncaaDoor.Bi
open Go Go.RowKit Go.Proofs.YtdnhpldcnmbncaaDoor
set_option linter.all false

theorem mul_le {c i m : Int} (hc0 : 64 ≤ c) (hc1 : c ≤ 1024) (h0 : 0 ≤ i) (h1 : i ≤ m) (hm : m ≤ 129) : 0 ≤ i * c ∧ i * c ≤ 132096 := by
  refine ⟨Int.mul_nonneg h0 (by omega), ?_⟩
  have h2 : i * c ≤ 129 * c := Int.mul_le_mul_of_nonneg_right (by omega) (by omega)
  omega
set_option maxHeartbeats 1600000 in
set_option maxRecDepth 100000 in
theorem ucut_any (v s c i : Int) (h t : ByteArray) (a : Option Addr) (n k : Nat) (w : World) (hc0 : 64 ≤ c) (hc1 : c ≤ 1024) (hi0 : 0 ≤ i) (hi1 : i ≤ 128) (hs0 : 0 ≤ s) (hs1 : s ≤ 8192) :
    Calls Tryd.prog 29 #[.agg #[.int .i64 v, .int .i64 s, .int .i64 c, .string h, .string t, .slice a n k], .int .i64 i] w fun e w' => e = .returned (.tuple #[.int .i64 (i * c), .int .i64 (min ((i + 1) * c) s)]) ∧ Below w.heap.size w w' := by
  have hb := bel_alloc w (.cells #[.int .i64 v, .int .i64 s, .int .i64 c, .string h, .string t, .slice a n k] 25)
  have hA := BAt.new w v s c h t (.slice a n k)
  obtain ⟨m0, m1⟩ := mul_le (m := 129) hc0 hc1 hi0 (by omega) (by omega)
  obtain ⟨m2, m3⟩ := mul_le (i := i + 1) (m := 129) hc0 hc1 (by omega) (by omega) (by omega)
  obtain ⟨w1, hw1⟩ : ∃ W, w.alloc (.cells #[.int .i64 v, .int .i64 s, .int .i64 c, .string h, .string t, .slice a n k] 25) = W := ⟨_, rfl⟩
  rw [hw1] at hb hA
  obtain ⟨b, hbe⟩ : ∃ b, w.heap.size = b := ⟨_, rfl⟩
  rw [hbe] at hA
  have qA := Box.mk fun w' (hx : Below w1.heap.size w1 w') => (hA.here hx).cells
  replace hb := Box.mk hb
  clear hA
  obtain ⟨X, hX⟩ : ∃ X, i * c = X := ⟨_, rfl⟩
  obtain ⟨Y, hY⟩ : ∃ Y, (i + 1) * c = Y := ⟨_, rfl⟩
  rw [hX] at m0 m1 ⊢
  rw [hY] at m2 m3 ⊢
  obtain ⟨M, hM⟩ : ∃ M, min Y s = M := ⟨_, rfl⟩
  rw [hM]
  go_enter Tryd.func29, Tryd.ntmps29
  go_wp2_with fail
  refine region_quiet (fun w' => Below w1.heap.size w1 w') (by kernel_rfl) (by kernel_rfl) (dB _) ?_
  repeat (go_big_quiet_step (first | exact fun _ => rfl | rfl))
  refine quiet_val rfl (.int .i64 c) (fun w' hw' => by obtain ⟨q0, q1, q2, q3, q4, q5⟩ := qA.out w' hw'; go_simp) ?_
  simp only [Act.put, List.setIfInBounds_toArray, List.set_cons_succ, List.set_cons_zero]
  repeat (go_big_quiet_step (first | exact fun _ => rfl | rfl))
  refine quiet_val rfl (.int .i64 c) (fun w' hw' => by obtain ⟨q0, q1, q2, q3, q4, q5⟩ := qA.out w' hw'; go_simp) ?_
  simp only [Act.put, List.setIfInBounds_toArray, List.set_cons_succ, List.set_cons_zero]
  repeat (go_big_quiet_step (first | exact fun _ => rfl | rfl))
  refine quiet_val rfl (.int .i64 s) (fun w' hw' => by obtain ⟨q0, q1, q2, q3, q4, q5⟩ := qA.out w' hw'; go_simp) ?_
  simp only [Act.put, List.setIfInBounds_toArray, List.set_cons_succ, List.set_cons_zero]
  repeat (go_big_quiet_step (first | exact fun _ => rfl | rfl))
  refine wpQuiet_nil ?_
  intro w2 hw2
  go_wp2_with fail
  go_returns
  exact ⟨rfl, by first | exact mono_bel hb.out hw2 (Nat.le_refl _) | exact hbe ▸ mono_bel hb.out hw2 (Nat.le_refl _)⟩
theorem cn_pos {v s c : Int} {h t : ByteArray} {l : List ByteArray} (hc : 0 < cnM v s c h t l) : chkB v s c h t l = true := by
  cases e : chkB v s c h t l with
  | true => rfl
  | false => rw [cn_no e] at hc; omega
theorem chk_sz {v s c : Int} {h t : ByteArray} {l : List ByteArray} (hc : chkB v s c h t l = true) : 1 ≤ s ∧ s ≤ 8192 ∧ 64 ≤ c ∧ c ≤ 1024 := by
  obtain ⟨_, _, hs0, hs1, h3⟩ := num_sz (chk_num hc)
  have hsz := sz_cases h3
  omega
theorem cut_no {s c i : Int} {m : Nat} (hi : ¬ (0 ≤ i ∧ i < (m : Int))) : cutP s c m i = (0, 0) := by unfold cutP; rw [if_neg hi]
theorem cut_yes {s c i : Int} {m : Nat} (hi : 0 ≤ i ∧ i < (m : Int)) : cutP s c m i = (i * c, min ((i + 1) * c) s) := by unfold cutP; rw [if_pos hi]
set_option maxHeartbeats 1600000 in
set_option maxRecDepth 100000 in
theorem bcut_any (v s c i : Int) (h t : ByteArray) (a : Option Addr) (n k : Nat) (l : List ByteArray) (w : World) (hP : PA w a n k l) (hK : KIs w) :
    Calls Tryd.prog 17 #[.agg #[.int .i64 v, .int .i64 s, .int .i64 c, .string h, .string t, .slice a n k], .int .i64 i] w fun e w' => e = .returned (.tuple #[.int .i64 (cutP s c (cnM v s c h t l) i).1, .int .i64 (cutP s c (cnM v s c h t l) i).2]) ∧ Below w.heap.size w w' := by
  have h1 := Box.mk fun w' (hx : Below w.heap.size w w') => bcount_any v s c h t a n k l w' (hP.here hx) (hK.below hx hK.lt)
  have hf := Box.mk fun hx => chk_sz (cn_pos (v := v) (s := s) (c := c) (h := h) (t := t) (l := l) hx)
  have hm2 := Box.mk fun hx => (cn_yes (cn_pos (v := v) (s := s) (c := c) (h := h) (t := t) (l := l) hx)).2.2
  obtain ⟨m, hm⟩ : ∃ m, cnM v s c h t l = m := ⟨_, rfl⟩
  rw [hm] at h1 hf hm2 ⊢
  clear hm hP hK
  have hc := fun w' h64 h1024 h0 h128 hs hs1 => ucut_any v s c i h t a n k w' h64 h1024 h0 h128 hs hs1
  replace hc := Box.mk hc
  have hb := bel_alloc w (.cells #[.int .i64 v, .int .i64 s, .int .i64 c, .string h, .string t, .slice a n k] 25)
  have hA := BAt.new w v s c h t (.slice a n k)
  obtain ⟨w1, hw1⟩ : ∃ W, w.alloc (.cells #[.int .i64 v, .int .i64 s, .int .i64 c, .string h, .string t, .slice a n k] 25) = W := ⟨_, rfl⟩
  rw [hw1] at hb hA
  obtain ⟨b, hbe⟩ : ∃ b, w.heap.size = b := ⟨_, rfl⟩
  rw [hbe] at hA
  obtain ⟨q0, q1, q2, q3, q4, q5⟩ := hA.cells
  replace hb := Box.mk hb
  replace hA := Box.mk hA
  by_cases hi : 0 ≤ i ∧ i < (m : Int)
  · rw [cut_yes hi]
    obtain ⟨hi0, hi1⟩ := hi
    obtain ⟨s0, s1, c0, c1⟩ := hf.out (by omega)
    have := hm2.out (by omega)
    have h2 := h1.out w1 hb.out
    have h3 := Box.mk fun w' => hc.out w' c0 c1 hi0 (by omega) (by omega) s1
    obtain ⟨X, hX⟩ : ∃ X, i * c = X := ⟨_, rfl⟩
    obtain ⟨Y, hY⟩ : ∃ Y, min ((i + 1) * c) s = Y := ⟨_, rfl⟩
    rw [hX, hY] at h3 ⊢
    clear hX hY h1 hc
    have hn1 : ¬ i < 0 := by omega
    have hn2 : ¬ i ≥ (m : Int) := by omega
    go_enter Tryd.func17, Tryd.ntmps17
    go_wp2_with fail
    refine h2.mono ?_
    clear h2
    rintro e w2 ⟨rfl, hb2⟩
    replace hA := Box.mk (hA.out.here hb2)
    replace hb := Box.mk (mono_bel hb.out hb2 (Nat.le_refl _))
    clear hb2 q0 q1 q2 q3 q4 q5
    try clear hw1
    obtain ⟨q0, q1, q2, q3, q4, q5⟩ := hA.out.cells
    replace h3 := h3.out w2
    go_wp2_with fail
    refine h3.mono ?_
    clear h3
    rintro e w3 ⟨rfl, hb2⟩
    replace hA := Box.mk (hA.out.here hb2)
    replace hb := Box.mk (mono_bel hb.out hb2 (Nat.le_refl _))
    clear hb2 q0 q1 q2 q3 q4 q5
    try clear hw1
    obtain ⟨q0, q1, q2, q3, q4, q5⟩ := hA.out.cells
    go_wp2_with fail
    go_returns
    exact ⟨rfl, by first | exact hb.out | exact hbe ▸ hb.out⟩
  · rw [cut_no hi]
    clear hc
    by_cases hi0 : i < 0
    · clear hi
      go_enter Tryd.func17, Tryd.ntmps17
      go_wp2_with fail
      go_returns
      exact ⟨rfl, by first | exact hb.out | exact hbe ▸ hb.out⟩
    · have hn2 : i ≥ (m : Int) := by omega
      have h2 := h1.out w1 hb.out
      clear hi h1
      go_enter Tryd.func17, Tryd.ntmps17
      go_wp2_with fail
      refine h2.mono ?_
      clear h2
      rintro e w2 ⟨rfl, hb2⟩
      replace hA := Box.mk (hA.out.here hb2)
      replace hb := Box.mk (mono_bel hb.out hb2 (Nat.le_refl _))
      clear hb2 q0 q1 q2 q3 q4 q5
      try clear hw1
      obtain ⟨q0, q1, q2, q3, q4, q5⟩ := hA.out.cells
      go_wp2_with fail
      go_returns
      exact ⟨rfl, by first | exact hb.out | exact hbe ▸ hb.out⟩
set_option maxHeartbeats 1600000 in
set_option maxRecDepth 100000 in
theorem rcut_any (v s c i : Int) (h t : ByteArray) (a : Option Addr) (n k : Nat) (l : List ByteArray) (w : World) (hP : PA w a n k l) (hF : Fit l) :
    Calls Tryd.prog 18 #[.agg #[.int .i64 v, .int .i64 s, .int .i64 c, .string h, .string t, .slice a n k], .int .i64 i] w fun e w' => e = .returned (.tuple #[.int .i64 (cutP s c (cnM v s c h t l) i).1, .int .i64 (cutP s c (cnM v s c h t l) i).2]) ∧ Below w.heap.size w w' := by
  have h1 := Box.mk fun w' (hx : Below w.heap.size w w') => rcount_any v s c h t a n k l w' (hP.here hx) hF
  have hf := Box.mk fun hx => chk_sz (cn_pos (v := v) (s := s) (c := c) (h := h) (t := t) (l := l) hx)
  have hm2 := Box.mk fun hx => (cn_yes (cn_pos (v := v) (s := s) (c := c) (h := h) (t := t) (l := l) hx)).2.2
  obtain ⟨m, hm⟩ : ∃ m, cnM v s c h t l = m := ⟨_, rfl⟩
  rw [hm] at h1 hf hm2 ⊢
  clear hm hP hF
  have hb := bel_alloc w (.cells #[.int .i64 v, .int .i64 s, .int .i64 c, .string h, .string t, .slice a n k] 25)
  have hA := BAt.new w v s c h t (.slice a n k)
  obtain ⟨w1, hw1⟩ : ∃ W, w.alloc (.cells #[.int .i64 v, .int .i64 s, .int .i64 c, .string h, .string t, .slice a n k] 25) = W := ⟨_, rfl⟩
  rw [hw1] at hb hA
  obtain ⟨b, hbe⟩ : ∃ b, w.heap.size = b := ⟨_, rfl⟩
  rw [hbe] at hA
  obtain ⟨q0, q1, q2, q3, q4, q5⟩ := hA.cells
  replace hb := Box.mk hb
  replace hA := Box.mk hA
  by_cases hi : 0 ≤ i ∧ i < (m : Int)
  · rw [cut_yes hi]
    obtain ⟨hi0, hi1⟩ := hi
    obtain ⟨s0, s1, c0, c1⟩ := hf.out (by omega)
    have hm128 := hm2.out (by omega)
    have h2 := h1.out w1 hb.out
    obtain ⟨m0, m1⟩ := mul_le (m := 129) c0 c1 hi0 (by omega) (by omega)
    obtain ⟨m2, m3⟩ := mul_le (i := i + 1) (m := 129) c0 c1 (by omega) (by omega) (by omega)
    obtain ⟨X, hX⟩ : ∃ X, i * c = X := ⟨_, rfl⟩
    obtain ⟨Y, hY⟩ : ∃ Y, (i + 1) * c = Y := ⟨_, rfl⟩
    rw [hX] at m0 m1 ⊢
    rw [hY] at m2 m3 ⊢
    obtain ⟨M, hM⟩ : ∃ M, min Y s = M := ⟨_, rfl⟩
    rw [hM]
    clear h1
    have hn1 : ¬ i < 0 := by omega
    have hn2 : ¬ i ≥ (m : Int) := by omega
    go_enter Tryd.func18, Tryd.ntmps18
    go_wp2_with fail
    refine h2.mono ?_
    clear h2
    rintro e w2 ⟨rfl, hb2⟩
    replace hA := Box.mk (hA.out.here hb2)
    replace hb := Box.mk (mono_bel hb.out hb2 (Nat.le_refl _))
    clear hb2 q0 q1 q2 q3 q4 q5
    try clear hw1
    obtain ⟨q0, q1, q2, q3, q4, q5⟩ := hA.out.cells
    have qA := Box.mk fun w' (hx : Below w2.heap.size w2 w') => (hA.out.here hx).cells
    clear q0 q1 q2 q3 q4 q5
    go_wp2_with fail
    refine region_quiet (fun w' => Below w2.heap.size w2 w') (by kernel_rfl) (by kernel_rfl) (dB _) ?_
    repeat (go_big_quiet_step (first | exact fun _ => rfl | rfl))
    refine quiet_val rfl (.int .i64 c) (fun w' hw' => by obtain ⟨q0, q1, q2, q3, q4, q5⟩ := qA.out w' hw'; go_simp) ?_
    simp only [Act.put, List.setIfInBounds_toArray, List.set_cons_succ, List.set_cons_zero]
    repeat (go_big_quiet_step (first | exact fun _ => rfl | rfl))
    refine quiet_val rfl (.int .i64 c) (fun w' hw' => by obtain ⟨q0, q1, q2, q3, q4, q5⟩ := qA.out w' hw'; go_simp) ?_
    simp only [Act.put, List.setIfInBounds_toArray, List.set_cons_succ, List.set_cons_zero]
    repeat (go_big_quiet_step (first | exact fun _ => rfl | rfl))
    refine quiet_val rfl (.int .i64 s) (fun w' hw' => by obtain ⟨q0, q1, q2, q3, q4, q5⟩ := qA.out w' hw'; go_simp) ?_
    simp only [Act.put, List.setIfInBounds_toArray, List.set_cons_succ, List.set_cons_zero]
    repeat (go_big_quiet_step (first | exact fun _ => rfl | rfl))
    refine wpQuiet_nil ?_
    intro w3 hb2
    replace hb := Box.mk (mono_bel hb.out hb2 (Nat.le_refl _))
    go_wp2_with fail
    go_returns
    exact ⟨rfl, by first | exact hb.out | exact hbe ▸ hb.out⟩
  · rw [cut_no hi]
    by_cases hi0 : i < 0
    · clear hi
      go_enter Tryd.func18, Tryd.ntmps18
      go_wp2_with fail
      go_returns
      exact ⟨rfl, by first | exact hb.out | exact hbe ▸ hb.out⟩
    · have hn2 : i ≥ (m : Int) := by omega
      have h2 := h1.out w1 hb.out
      clear hi h1
      go_enter Tryd.func18, Tryd.ntmps18
      go_wp2_with fail
      refine h2.mono ?_
      clear h2
      rintro e w2 ⟨rfl, hb2⟩
      replace hA := Box.mk (hA.out.here hb2)
      replace hb := Box.mk (mono_bel hb.out hb2 (Nat.le_refl _))
      clear hb2 q0 q1 q2 q3 q4 q5
      try clear hw1
      obtain ⟨q0, q1, q2, q3, q4, q5⟩ := hA.out.cells
      go_wp2_with fail
      go_returns
      exact ⟨rfl, by first | exact hb.out | exact hbe ▸ hb.out⟩
