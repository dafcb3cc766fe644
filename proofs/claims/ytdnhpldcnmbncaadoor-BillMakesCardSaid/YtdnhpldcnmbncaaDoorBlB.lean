/- Bills: walks of the document's size, Check, Count, Cut and of the program's Count, Cut. -/
import Derived.Test.YtdnhpldcnmbncaaDoorBlA
namespace Go.Proofs.YtdnhpldcnmbncaaDoor.Bi
open Go Go.RowKit Go.Proofs.YtdnhpldcnmbncaaDoor
set_option linter.all false

set_option maxHeartbeats 800000 in
set_option maxRecDepth 100000 in
theorem rsize_any (c : Int) (w : World) :
    Calls Tryd.prog 34 #[.int .i64 c] w fun e w' => e = .returned (.bool (szB c)) ∧ w' = w := by
  obtain ⟨z, hz⟩ : ∃ z, szB c = z := ⟨_, rfl⟩
  have hz2 := Box.mk hz
  rw [hz]
  clear hz
  unfold szB at hz2
  go_enter Tryd.func34, Tryd.ntmps34
  by_cases h1 : c = 64
  · subst h1
    go_wp2_with fail
    go_ret
    exact ⟨by rw [← hz2.out]; rfl, rfl⟩
  by_cases h2 : c = 128
  · subst h2
    go_wp2_with fail
    go_ret
    exact ⟨by rw [← hz2.out]; rfl, rfl⟩
  by_cases h3 : c = 256
  · subst h3
    go_wp2_with fail
    go_ret
    exact ⟨by rw [← hz2.out]; rfl, rfl⟩
  by_cases h4 : c = 512
  · subst h4
    go_wp2_with fail
    go_ret
    exact ⟨by rw [← hz2.out]; rfl, rfl⟩
  by_cases h5 : c = 1024
  · subst h5
    go_wp2_with fail
    go_ret
    exact ⟨by rw [← hz2.out]; rfl, rfl⟩
  go_wp2_with fail
  go_ret
  exact ⟨by rw [← hz2.out]; simp only [Bool.or_assoc]; rfl, rfl⟩
theorem wrapN {m : Nat} (h : m ≤ 9223372036854775807) : IntKind.i64.wrap (m : Int) = (m : Int) := by rw [IntKind.wrap_i64]; omega
theorem num_no {v s c : Int} (h : ¬ (1 ≤ v ∧ v ≤ 255 ∧ 1 ≤ s ∧ s ≤ 8192)) : numB v s c = false := by
  cases hn : numB v s c with
  | false => rfl
  | true => exact absurd (let x := num_sz hn; ⟨x.1, x.2.1, x.2.2.1, x.2.2.2.1⟩) h
theorem num_no2 {v s c : Int} (h : szB c = false) : numB v s c = false := by
  unfold numB; rw [h]; simp
theorem num_yes {v s c : Int} (h : 1 ≤ v ∧ v ≤ 255 ∧ 1 ≤ s ∧ s ≤ 8192) (h2 : szB c = true) : numB v s c = true := by
  unfold numB; rw [h2]; simp; omega
theorem chk_no {v s c : Int} {h t : ByteArray} {l : List ByteArray} (hn : numB v s c = false) : chkI v s c h t l = 1 := by unfold chkI chkB; rw [hn]; rfl
theorem chk_h {v s c : Int} {h t : ByteArray} {l : List ByteArray} (hn : h.size ≠ 32) : chkI v s c h t l = 1 := by unfold chkI chkB; rw [decide_eq_false hn]; simp
theorem chk_t {v s c : Int} {h t : ByteArray} {l : List ByteArray} (hn : t.size ≠ 32) : chkI v s c h t l = 1 := by unfold chkI chkB; rw [decide_eq_false hn]; simp
theorem chk_l {v s c : Int} {h t : ByteArray} {l : List ByteArray} (hn : lstB s c t l = false) : chkI v s c h t l = 1 := by unfold chkI chkB; rw [hn]; simp
theorem chk_y {v s c : Int} {h t : ByteArray} {l : List ByteArray} (hn : numB v s c = true) (hh : h.size = 32) (ht : t.size = 32) (hl : lstB s c t l = true) : chkI v s c h t l = 0 := by unfold chkI chkB; rw [hn, hh, ht, hl]; rfl
theorem lst_no {s c : Int} {t : ByteArray} {l : List ByteArray} {n : Nat} (hl : l.length = n) (h0 : 0 < n) (h : rootL l ≠ t) : lstB s c t l = false := by
  unfold lstB
  have h1 : l.isEmpty = false := by cases l with
    | nil => simp at hl; omega
    | cons => rfl
  rw [h1, decide_eq_false h]; simp
set_option maxHeartbeats 3200000 in
set_option maxRecDepth 100000 in
theorem rcheck_any (v s c : Int) (h t : ByteArray) (a : Option Addr) (n k : Nat) (l : List ByteArray) (w : World) (hP : PA w a n k l) (hF : Fit l) :
    Calls Tryd.prog 20 #[.agg #[.int .i64 v, .int .i64 s, .int .i64 c, .string h, .string t, .slice a n k]] w fun e w' => e = .returned (.int .i64 (chkI v s c h t l)) ∧ Below w.heap.size w w' := by
  have hb := bel_alloc w (.cells #[.int .i64 v, .int .i64 s, .int .i64 c, .string h, .string t, .slice a n k] 25)
  have hA := BAt.new w v s c h t (.slice a n k)
  have h1 := rsize_any c (w.alloc (.cells #[.int .i64 v, .int .i64 s, .int .i64 c, .string h, .string t, .slice a n k] 25))
  have hPB := Box.mk fun w' (hx : Below w.heap.size w w') => hP.here hx
  have hRt := Box.mk fun w' (hx : Below w.heap.size w w') => rroot_any n l a k w' (hP.here hx) hF
  have hlen := Box.mk hP.len
  have hcap := hP.cap
  have htop := hP.top
  obtain ⟨Z, hZ⟩ : ∃ Z, chkI v s c h t l = Z := ⟨_, rfl⟩
  have hZB := Box.mk hZ
  rw [hZ]
  obtain ⟨w1, hw1⟩ : ∃ W, w.alloc (.cells #[.int .i64 v, .int .i64 s, .int .i64 c, .string h, .string t, .slice a n k] 25) = W := ⟨_, rfl⟩
  rw [hw1] at hb hA h1
  obtain ⟨b, hbe⟩ : ∃ b, w.heap.size = b := ⟨_, rfl⟩
  rw [hbe] at hA
  obtain ⟨q0, q1, q2, q3, q4, q5⟩ := hA.cells
  replace hb := Box.mk hb
  replace hA := Box.mk hA
  clear hZ hP hF
  go_enter Tryd.func20, Tryd.ntmps20
  by_cases g1 : v < 1
  · have hZ1 : Box (Z = 1) := ⟨hZB.out ▸ chk_no (num_no (by omega))⟩
    go_wp2_with fail
    go_ret
    exact ⟨by rw [hZ1.out]; rfl, by first | exact hb.out | exact hbe ▸ hb.out⟩
  by_cases g2 : v > 255
  · have hZ1 : Box (Z = 1) := ⟨hZB.out ▸ chk_no (num_no (by omega))⟩
    go_wp2_with fail
    go_ret
    exact ⟨by rw [hZ1.out]; rfl, by first | exact hb.out | exact hbe ▸ hb.out⟩
  by_cases g3 : s < 1
  · have hZ1 : Box (Z = 1) := ⟨hZB.out ▸ chk_no (num_no (by omega))⟩
    go_wp2_with fail
    go_ret
    exact ⟨by rw [hZ1.out]; rfl, by first | exact hb.out | exact hbe ▸ hb.out⟩
  by_cases g4 : s > 8192
  · have hZ1 : Box (Z = 1) := ⟨hZB.out ▸ chk_no (num_no (by omega))⟩
    go_wp2_with fail
    go_ret
    exact ⟨by rw [hZ1.out]; rfl, by first | exact hb.out | exact hbe ▸ hb.out⟩
  go_wp2_with fail
  refine h1.mono ?_
  clear h1
  rintro e w2 ⟨rfl, rfl⟩
  cases hsz : szB c
  · have hZ1 : Box (Z = 1) := ⟨hZB.out ▸ chk_no (num_no2 hsz)⟩
    clear hsz
    go_wp2_with fail
    go_ret
    exact ⟨by rw [hZ1.out]; rfl, by first | exact hb.out | exact hbe ▸ hb.out⟩
  have hn := num_yes (v := v) (s := s) (by omega) hsz
  have hcs := sz_cases hsz
  clear hsz
  by_cases hh : h.size = 32
  · have e1 : ((h.size : Int) != 32) = false := by rw [hh]; rfl
    by_cases ht : t.size = 32
    · have e2 : ((t.size : Int) != 32) = false := by rw [ht]; rfl
      replace hh := Box.mk hh
      replace ht := Box.mk ht
      obtain ⟨m, hm, hm1, hm2, hm3, hm4⟩ := cnt_nat hn
      have hc0 : 64 ≤ c := by omega
      have hc1 : c ≤ 1024 := by omega
      have hs0 : 1 ≤ s := by omega
      have hs1 : s ≤ 8192 := by omega
      replace hm : Box ((s + c - 1) / c = (m : Int)) := ⟨hm⟩
      replace hn := Box.mk hn
      clear hcs hm3 hm4 g1 g2 g3 g4
      rcases Nat.eq_zero_or_pos n with hn0 | hn0
      · have hZ1 : Box (Z = 0) := ⟨hZB.out ▸ chk_y hn.out hh.out ht.out (by
          obtain rfl : l = [] := List.length_eq_zero_iff.1 (hlen.out.trans hn0)
          rfl)⟩
        have hd : ((n : Int) == 0) = true := by rw [hn0]; rfl
        go_wp2_with fail
        go_ret
        exact ⟨by rw [hZ1.out]; rfl, by first | exact hb.out | exact hbe ▸ hb.out⟩
      have hd : ((n : Int) == 0) = false := by simp; omega
      have qA := Box.mk fun w' (hx : Below w2.heap.size w2 w') => (hA.out.here hx).cells
      have hb3 := Box.mk fun w' (hx : Below w2.heap.size w2 w') => (mono_bel hb.out hx (Nat.le_refl _) : Below w.heap.size w w')
      go_wp2_with fail
      refine region_quiet (fun w' => Below w2.heap.size w2 w') (by kernel_rfl) (by kernel_rfl) (dB _) ?_
      repeat (go_big_quiet_step (first | exact fun _ => rfl | rfl))
      refine quiet_val rfl (.slice a n k) (fun w' hw' => by obtain ⟨q0, q1, q2, q3, q4, q5⟩ := qA.out w' hw'; go_simp) ?_
      simp only [Act.put, List.setIfInBounds_toArray, List.set_cons_succ, List.set_cons_zero]
      repeat (go_big_quiet_step (first | exact fun _ => rfl | rfl))
      refine quiet_val rfl (.int .i64 s) (fun w' hw' => by obtain ⟨q0, q1, q2, q3, q4, q5⟩ := qA.out w' hw'; go_simp) ?_
      simp only [Act.put, List.setIfInBounds_toArray, List.set_cons_succ, List.set_cons_zero]
      repeat (go_big_quiet_step (first | exact fun _ => rfl | rfl))
      refine quiet_val rfl (.int .i64 c) (fun w' hw' => by obtain ⟨q0, q1, q2, q3, q4, q5⟩ := qA.out w' hw'; go_simp) ?_
      simp only [Act.put, List.setIfInBounds_toArray, List.set_cons_succ, List.set_cons_zero]
      repeat (go_big_quiet_step (first | exact fun _ => rfl | rfl))
      refine quiet_val rfl (.int .i64 c) (fun w' hw' => by obtain ⟨q0, q1, q2, q3, q4, q5⟩ := qA.out w' hw'; go_simp) ?_
      simp only [Act.put, List.setIfInBounds_toArray, List.set_cons_succ, List.set_cons_zero]
      refine quiet_val rfl (.int .i64 (m : Int)) (fun w' hw' => by go_simp; rw [if_neg (by omega), Int.tdiv_eq_ediv_of_nonneg (by omega), hm.out, wrapN (by omega)]) ?_
      by_cases hnm : n = m
      · subst hnm
        have hq : ((n : Int) != (n : Int)) = false := by simp
        simp only [Act.put, List.setIfInBounds_toArray, List.set_cons_succ, List.set_cons_zero]
        repeat (go_big_quiet_step (first | exact fun _ => rfl | rfl))
        refine quiet_val rfl (.slice a n k) (fun w' hw' => by obtain ⟨q0, q1, q2, q3, q4, q5⟩ := qA.out w' hw'; go_simp) ?_
        simp only [Act.put, List.setIfInBounds_toArray, List.set_cons_succ, List.set_cons_zero]
        repeat (go_big_quiet_step (first | exact fun _ => rfl | rfl))
        obtain ⟨R, hRe⟩ : ∃ R, rootL l = R := ⟨_, rfl⟩
        rw [hRe] at hRt
        refine quiet_call rfl (.string R) (fun w' hw' => bel_call (hRt.out w' (hb3.out w' hw')) hw') (fun w' _ => by go_simp) ?_
        simp only [Act.put, List.setIfInBounds_toArray, List.set_cons_succ, List.set_cons_zero]
        repeat (go_big_quiet_step (first | exact fun _ => rfl | rfl))
        by_cases hrt : R = t
        · have heq : (R.toList == t.toList) = true := by rw [eqT, decide_eq_true hrt]
          refine quiet_val rfl (.string t) (fun w' hw' => by obtain ⟨q0, q1, q2, q3, q4, q5⟩ := qA.out w' hw'; go_simp) ?_
          simp only [Act.put, List.setIfInBounds_toArray, List.set_cons_succ, List.set_cons_zero]
          repeat (go_big_quiet_step (first | exact fun _ => rfl | rfl))
          refine wpQuiet_nil ?_
          intro w3 hw3
          clear q0 q1 q2 q3 q4 q5
          have hA3 := Box.mk (hA.out.here hw3)
          have hb4 := Box.mk (hb3.out w3 hw3)
          have hS0 : Box ((∀ j, j < 0 → (l.getD j ByteArray.empty).size = 32) ∧ Below w3.heap.size w3 w3) := ⟨⟨fun j hj => by omega, Below.refl _ _⟩⟩
          have hnum : Box (numB v s c = true) := hn
          have hRt2 : Box (rootL l = t) := ⟨hRe.trans hrt⟩
          clear hw3 qA hb3 hRt hRe hrt heq hA hb hw1
          go_wp2_with fail
          go_loopw [3] (fun q wr => ∃ i : Nat, i ≤ n ∧ q = .int .i64 (i : Int) ∧ Box ((∀ j, j < i → (l.getD j ByteArray.empty).size = 32) ∧ Below w3.heap.size w3 wr)) (fun q _ => n - (intOf q).toNat)
          case atStart => exact ⟨0, by omega, rfl, hS0⟩
          case round =>
            clear hS0
            obtain ⟨i, hi, rfl, hS⟩ := hrel
            have hA2 := Box.mk (hA3.out.here hS.out.2)
            have hb2 := Box.mk (mono_bel hb4.out hS.out.2 (Nat.le_refl _))
            obtain ⟨q0, q1, q2, q3, q4, q5⟩ := hA2.out.cells
            by_cases hlt : i < n
            · have hii : (i : Int) < (n : Int) := by omega
              obtain ⟨blk, off, rfl, hblk, hcell⟩ := (hPB.out wr hb2.out).at_ (by omega)
              have hcl := hcell i hlt
              have hxz := Box.mk fun hh => lst_size (s := s) (c := c) (t := t) (l := l) (i := i) (by rw [hlen.out]; omega) hh
              have hsz := hS.out.1
              obtain ⟨x, hx⟩ : ∃ x, l.getD i ByteArray.empty = x := ⟨_, rfl⟩
              rw [hx] at hcl hxz
              by_cases h32 : x.size = 32
              · have hS1 : Box ((∀ j, j < i + 1 → (l.getD j ByteArray.empty).size = 32) ∧ Below w3.heap.size w3 wr) := ⟨⟨fun j hj => by
                  by_cases e : j = i
                  · subst e; rw [hx]; exact h32
                  · exact hsz j (by omega), hS.out.2⟩⟩
                have hq2 : ((x.size : Int) != 32) = false := by rw [h32]; rfl
                clear hS hsz hx hxz hcell hblk hA2 hb2
                go_wp2_with fail
                exact ⟨⟨i + 1, by omega, by go_num, hS1⟩, by simp [intOf]; omega⟩
              · have hq2 : ((x.size : Int) != 32) = true := by simp; omega
                have hZf : Box (Z = 1) := ⟨hZB.out ▸ chk_l (hxz.out h32)⟩
                clear hS hsz hx hxz hcell hblk hA2 h32
                go_wp2_with fail
                go_ret
                exact ⟨by rw [hZf.out]; rfl, by first | exact hb2.out | exact hbe ▸ hb2.out⟩
            · obtain rfl : i = n := by omega
              have hnl : ¬ (i : Int) < (i : Int) := by omega
              obtain ⟨hz1, hz2⟩ := lst_root (s := s) (c := c) (t := t) hlen.out hn0 hm.out hS.out.1
              have hZf : Box (Z = 0) := ⟨hZB.out ▸ chk_y hnum.out hh.out ht.out (by rw [hz1, hRt2.out]; simp)⟩
              clear hz1 hz2 hS
              go_wp2_with fail
              go_ret
              exact ⟨by rw [hZf.out]; rfl, by first | exact hb2.out | exact hbe ▸ hb2.out⟩
        · have heq : (R.toList == t.toList) = false := by rw [eqT, decide_eq_false hrt]
          have hZf : Box (Z = 1) := ⟨hZB.out ▸ chk_l (lst_no hlen.out hn0 (by rw [hRe]; exact hrt))⟩
          refine quiet_val rfl (.string t) (fun w' hw' => by obtain ⟨q0, q1, q2, q3, q4, q5⟩ := qA.out w' hw'; go_simp) ?_
          simp only [Act.put, List.setIfInBounds_toArray, List.set_cons_succ, List.set_cons_zero]
          repeat (go_big_quiet_step (first | exact fun _ => rfl | rfl))
          refine wpQuiet_nil ?_
          intro w3 hw3
          go_wp2_with fail
          go_ret
          exact ⟨by rw [hZf.out]; rfl, by first | exact hb3.out w3 hw3 | exact hbe ▸ hb3.out w3 hw3⟩
      · have hq : ((n : Int) != (m : Int)) = true := by simp; omega
        have hZf : Box (Z = 1) := ⟨hZB.out ▸ chk_l (lst_cnt hlen.out hn0 hm.out hnm)⟩
        simp only [Act.put, List.setIfInBounds_toArray, List.set_cons_succ, List.set_cons_zero]
        repeat (go_big_quiet_step (first | exact fun _ => rfl | rfl))
        refine wpQuiet_nil ?_
        intro w3 hw3
        go_wp2_with fail
        go_ret
        exact ⟨by rw [hZf.out]; rfl, by first | exact hb3.out w3 hw3 | exact hbe ▸ hb3.out w3 hw3⟩
    · have e2 : ((t.size : Int) != 32) = true := by simp; omega
      have hZ1 : Box (Z = 1) := ⟨hZB.out ▸ chk_t ht⟩
      clear ht hcs
      go_wp2_with fail
      go_ret
      exact ⟨by rw [hZ1.out]; rfl, by first | exact hb.out | exact hbe ▸ hb.out⟩
  · have e1 : ((h.size : Int) != 32) = true := by simp; omega
    have hZ1 : Box (Z = 1) := ⟨hZB.out ▸ chk_h hh⟩
    clear hh hcs
    go_wp2_with fail
    go_ret
    exact ⟨by rw [hZ1.out]; rfl, by first | exact hb.out | exact hbe ▸ hb.out⟩
/-- How many chunks there are of a good bill; of any other none. -/
def cnM (v s c : Int) (h t : ByteArray) (l : List ByteArray) : Nat := if chkB v s c h t l then (cntI s c).toNat else 0
def cutP (s c : Int) (m : Nat) (i : Int) : Int × Int := if 0 ≤ i ∧ i < (m : Int) then (i * c, min ((i + 1) * c) s) else (0, 0)
theorem chk_num {v s c : Int} {h t : ByteArray} {l : List ByteArray} (hc : chkB v s c h t l = true) : numB v s c = true := by
  unfold chkB at hc; simp only [Bool.and_eq_true] at hc; exact hc.1
theorem cn_yes {v s c : Int} {h t : ByteArray} {l : List ByteArray} (hc : chkB v s c h t l = true) : cntI s c = (cnM v s c h t l : Int) ∧ 1 ≤ cnM v s c h t l ∧ cnM v s c h t l ≤ 128 := by
  obtain ⟨m, hm, h1, h2, _⟩ := cnt_nat (chk_num hc)
  unfold cnM
  rw [if_pos hc, hm]
  omega
theorem cn_no {v s c : Int} {h t : ByteArray} {l : List ByteArray} (hc : chkB v s c h t l = false) : cnM v s c h t l = 0 := by
  unfold cnM; rw [hc]; rfl
set_option maxHeartbeats 1600000 in
set_option maxRecDepth 100000 in
theorem bcount_any (v s c : Int) (h t : ByteArray) (a : Option Addr) (n k : Nat) (l : List ByteArray) (w : World) (hP : PA w a n k l) (hK : KIs w) :
    Calls Tryd.prog 21 #[.agg #[.int .i64 v, .int .i64 s, .int .i64 c, .string h, .string t, .slice a n k]] w fun e w' => e = .returned (.int .i64 (cnM v s c h t l : Int)) ∧ Below w.heap.size w w' := by
  have hb := bel_alloc w (.cells #[.int .i64 v, .int .i64 s, .int .i64 c, .string h, .string t, .slice a n k] 25)
  have hA := BAt.new w v s c h t (.slice a n k)
  have h1 := check_any v s c h t a n k l _ (hP.here hb) (hK.below hb hK.lt)
  have h2 := Box.mk fun w' hn hm => count_any v s c h t a n k w' (cnM v s c h t l) hn hm
  have hy := Box.mk (cn_yes (v := v) (s := s) (c := c) (h := h) (t := t) (l := l))
  have hn := Box.mk (cn_no (v := v) (s := s) (c := c) (h := h) (t := t) (l := l))
  have hnu := Box.mk (chk_num (v := v) (s := s) (c := c) (h := h) (t := t) (l := l))
  unfold chkI at h1
  obtain ⟨m, hm⟩ : ∃ m, cnM v s c h t l = m := ⟨_, rfl⟩
  obtain ⟨B, hB⟩ : ∃ B, chkB v s c h t l = B := ⟨_, rfl⟩
  rw [hm] at h2 hy hn ⊢
  rw [hB] at h1 hy hn hnu
  obtain ⟨w1, hw1⟩ : ∃ W, w.alloc (.cells #[.int .i64 v, .int .i64 s, .int .i64 c, .string h, .string t, .slice a n k] 25) = W := ⟨_, rfl⟩
  rw [hw1] at hb hA h1
  obtain ⟨b, hbe⟩ : ∃ b, w.heap.size = b := ⟨_, rfl⟩
  rw [hbe] at hA
  obtain ⟨q0, q1, q2, q3, q4, q5⟩ := hA.cells
  replace hb := Box.mk hb
  replace hA := Box.mk hA
  clear hm hB hP hK
  go_enter Tryd.func21, Tryd.ntmps21
  cases B
  · replace hn := Box.mk (hn.out rfl)
    rw [if_neg (by decide)] at h1
    go_wp2_with fail
    refine h1.mono ?_
    clear h1
    rintro e w2 ⟨rfl, hb2⟩
    replace hb := Box.mk (mono_bel hb.out hb2 (Nat.le_refl _))
    clear hb2 q0 q1 q2 q3 q4 q5 hA
    go_wp2_with fail
    go_ret
    exact ⟨by rw [hn.out]; rfl, by first | exact hb.out | exact hbe ▸ hb.out⟩
  · rw [if_pos rfl] at h1
    replace h2 := Box.mk fun w' => h2.out w' (hnu.out rfl) (hy.out rfl).1
    go_wp2_with fail
    refine h1.mono ?_
    clear h1
    rintro e w2 ⟨rfl, hb2⟩
    replace hb := Box.mk (mono_bel hb.out hb2 (Nat.le_refl _))
    replace hA := Box.mk (hA.out.here hb2)
    clear hb2 q0 q1 q2 q3 q4 q5 hw1
    obtain ⟨q0, q1, q2, q3, q4, q5⟩ := hA.out.cells
    have h3 := h2.out w2
    go_wp2_with fail
    refine h3.mono ?_
    clear h3
    rintro e w3 ⟨rfl, hb2⟩
    replace hb := Box.mk (mono_bel hb.out hb2 (Nat.le_refl _))
    go_wp2_with fail
    go_ret
    exact ⟨rfl, by first | exact hb.out | exact hbe ▸ hb.out⟩
set_option maxHeartbeats 1600000 in
set_option maxRecDepth 100000 in
theorem rcount_any (v s c : Int) (h t : ByteArray) (a : Option Addr) (n k : Nat) (l : List ByteArray) (w : World) (hP : PA w a n k l) (hF : Fit l) :
    Calls Tryd.prog 22 #[.agg #[.int .i64 v, .int .i64 s, .int .i64 c, .string h, .string t, .slice a n k]] w fun e w' => e = .returned (.int .i64 (cnM v s c h t l : Int)) ∧ Below w.heap.size w w' := by
  have hb := bel_alloc w (.cells #[.int .i64 v, .int .i64 s, .int .i64 c, .string h, .string t, .slice a n k] 25)
  have hA := BAt.new w v s c h t (.slice a n k)
  have h1 := rcheck_any v s c h t a n k l _ (hP.here hb) hF
  have hy := Box.mk (cn_yes (v := v) (s := s) (c := c) (h := h) (t := t) (l := l))
  have hn := Box.mk (cn_no (v := v) (s := s) (c := c) (h := h) (t := t) (l := l))
  have hnu := Box.mk (chk_num (v := v) (s := s) (c := c) (h := h) (t := t) (l := l))
  unfold chkI at h1
  obtain ⟨m, hm⟩ : ∃ m, cnM v s c h t l = m := ⟨_, rfl⟩
  obtain ⟨B, hB⟩ : ∃ B, chkB v s c h t l = B := ⟨_, rfl⟩
  rw [hm] at hy hn ⊢
  rw [hB] at h1 hy hn hnu
  obtain ⟨w1, hw1⟩ : ∃ W, w.alloc (.cells #[.int .i64 v, .int .i64 s, .int .i64 c, .string h, .string t, .slice a n k] 25) = W := ⟨_, rfl⟩
  rw [hw1] at hb hA h1
  obtain ⟨b, hbe⟩ : ∃ b, w.heap.size = b := ⟨_, rfl⟩
  rw [hbe] at hA
  obtain ⟨q0, q1, q2, q3, q4, q5⟩ := hA.cells
  replace hb := Box.mk hb
  replace hA := Box.mk hA
  clear hm hB hP hF
  go_enter Tryd.func22, Tryd.ntmps22
  cases B
  · replace hn := Box.mk (hn.out rfl)
    rw [if_neg (by decide)] at h1
    go_wp2_with fail
    refine h1.mono ?_
    clear h1
    rintro e w2 ⟨rfl, hb2⟩
    replace hb := Box.mk (mono_bel hb.out hb2 (Nat.le_refl _))
    clear hb2 q0 q1 q2 q3 q4 q5 hA
    go_wp2_with fail
    go_ret
    exact ⟨by rw [hn.out]; rfl, by first | exact hb.out | exact hbe ▸ hb.out⟩
  · rw [if_pos rfl] at h1
    obtain ⟨_, _, hs0, hs1, h3⟩ := num_sz (hnu.out rfl)
    have hsz := sz_cases h3
    have hc0 : 64 ≤ c := by omega
    have hc1 : c ≤ 1024 := by omega
    have hm : Box ((s + c - 1) / c = (m : Int)) := ⟨(hy.out rfl).1⟩
    clear hsz h3 hy hn
    go_wp2_with fail
    refine h1.mono ?_
    clear h1
    rintro e w2 ⟨rfl, hb2⟩
    replace hb := Box.mk (mono_bel hb.out hb2 (Nat.le_refl _))
    replace hA := Box.mk (hA.out.here hb2)
    clear hb2 q0 q1 q2 q3 q4 q5 hw1
    obtain ⟨q0, q1, q2, q3, q4, q5⟩ := hA.out.cells
    go_wp2_with fail
    go_ret
    exact ⟨by rw [← hm.out]; rfl, by first | exact hb.out | exact hbe ▸ hb.out⟩
