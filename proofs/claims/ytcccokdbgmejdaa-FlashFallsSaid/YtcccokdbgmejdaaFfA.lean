/- Walk of the law FlashFalls. -/
import Derived.Test.YtcccokdbgmejdaaFlK
namespace Go.Proofs.Ytcccokdbgmejdaa
open Go.RowKit

/-- Behind j calls, the power being to go at the k-th. -/
structure FF (k j : Nat) (D : Dev) : Prop where
  n : D.safe.length = 4
  w : D.ws.length ≤ j
  c : ((k = 0 ∨ j < k) ∧ D.off = false ∧ D.taken = j ∧ D.fall = k - j) ∨ (0 < k ∧ k ≤ j ∧ D.off = true ∧ D.taken = k - 1 ∧ D.fall = 0)
/-- What the next call answers. -/
def ffE (k j : Nat) : Int := if 0 < k ∧ k ≤ j + 1 then 7 else 0
theorem FF.start (k : Nat) (hk : k < 40) : FF k 0 ((Dev.new 4).falls k) := by
  refine ⟨rfl, Nat.le_refl _, ?_⟩
  by_cases h : k = 0
  · subst h; exact .inl ⟨.inl rfl, rfl, rfl, rfl⟩
  · exact .inl ⟨.inr (by omega), rfl, rfl, by simp [Dev.falls]⟩
theorem FF.step {k j : Nat} {D : Dev} (h : FF k j D) (hoff : D.off = false) : (D.goes = false → ffE k j = 7 ∧ (0 < k ∧ k ≤ j + 1 ∧ D.stepD.off = true ∧ D.stepD.taken = k - 1 ∧ D.stepD.fall = 0)) ∧ (D.goes = true → ffE k j = 0 ∧ ((k = 0 ∨ j + 1 < k) ∧ D.stepD.off = false ∧ D.stepD.taken = j + 1 ∧ D.stepD.fall = k - (j + 1))) := by
  rcases h.c with ⟨h1, h2, h3, h4⟩ | ⟨_, _, h2, _⟩
  · refine ⟨fun hg => ?_, fun hg => ?_⟩
    · have hf : D.fall = 1 := by simpa [Dev.goes] using hg
      rw [hf] at h4
      unfold ffE
      rw [if_pos (by omega)]
      unfold Dev.stepD
      rw [if_pos hf]
      exact ⟨rfl, by omega, by omega, rfl, by simp only; omega, rfl⟩
    · have hf : D.fall ≠ 1 := by simpa [Dev.goes] using hg
      rw [h4] at hf
      unfold ffE
      rw [if_neg (by omega)]
      unfold Dev.stepD
      rw [if_neg (by rw [h4]; exact hf)]
      exact ⟨rfl, by omega, h2, by simp only; omega, by simp only; omega⟩
  · rw [hoff] at h2; cases h2
theorem FF.write {k j : Nat} {D : Dev} (h : FF k j D) (n : Nat) (hn : n < 4) (t : List UInt8) (ht : t.length ≤ 64) : D.writeE n t = ffE k j ∧ FF k (j + 1) (D.write n t) := by
  unfold Dev.writeE Dev.write
  cases ho : D.off with
  | true =>
    have hr : D.refused n = 7 := by unfold Dev.refused; rw [if_pos ho]
    rcases h.c with ⟨_, h2, _⟩ | ⟨h1, h2, _, h4, h5⟩
    · rw [ho] at h2; cases h2
    · have hne : D.refused n ≠ 0 := by rw [hr]; decide
      rw [if_pos hne, if_pos hne, hr]
      exact ⟨by unfold ffE; rw [if_pos (by omega)], h.n, by have := h.w; omega, .inr ⟨h1, by omega, ho, h4, h5⟩⟩
  | false =>
    have hr : D.refused n = 0 := by unfold Dev.refused; rw [ho, if_neg (by simp), if_neg (by rw [h.n]; omega)]
    have hz : ¬ D.refused n ≠ 0 := fun h => h hr
    have h64 : ¬ 64 < t.length := by omega
    simp only [if_neg hz, if_neg h64]
    obtain ⟨s1, s2⟩ := h.step ho
    cases hg : D.goes with
    | true =>
      obtain ⟨e1, e2⟩ := s2 hg
      simp only [if_true]
      exact ⟨e1.symm, by simpa [Dev.step_safe] using h.n, by simp; exact h.w, .inl e2⟩
    | false =>
      obtain ⟨e1, e2⟩ := s1 hg
      simp only [Bool.false_eq_true, if_false]
      exact ⟨e1.symm, by rw [Dev.step_safe]; exact h.n, by rw [Dev.step_ws]; have := h.w; omega, .inr e2⟩
theorem FF.barrier {k j : Nat} {D : Dev} (h : FF k j D) : D.barrierE = ffE k j ∧ FF k (j + 1) D.barrier := by
  unfold Dev.barrierE Dev.barrier
  cases ho : D.off with
  | true =>
    rcases h.c with ⟨_, h2, _⟩ | ⟨h1, h2, _, h4, h5⟩
    · rw [ho] at h2; cases h2
    · simp only [if_true]
      exact ⟨by unfold ffE; rw [if_pos (by omega)], h.n, by have := h.w; omega, .inr ⟨h1, by omega, ho, h4, h5⟩⟩
  | false =>
    simp only [Bool.false_eq_true, if_false]
    obtain ⟨s1, s2⟩ := h.step ho
    cases hg : D.goes with
    | true =>
      obtain ⟨e1, e2⟩ := s2 hg
      simp only [if_true]
      exact ⟨e1.symm, by simp only [Dev.ok.seen_len]; exact h.n, by simp, .inl e2⟩
    | false =>
      obtain ⟨e1, e2⟩ := s1 hg
      simp only [Bool.false_eq_true, if_false]
      exact ⟨e1.symm, by rw [Dev.step_safe]; exact h.n, by rw [Dev.step_ws]; have := h.w; omega, .inr e2⟩
theorem FF.bounds {k j : Nat} {D : Dev} (h : FF k j D) (hk : k < 40) (hj : j ≤ 100) : D.taken ≤ 1000000 ∧ D.fall ≤ 9223372036854775807 ∧ D.ws.length ≤ 1000000 := by
  have hw := h.w
  rcases h.c with ⟨_, _, h3, h4⟩ | ⟨_, _, _, h3, h4⟩ <;> omega
/-- In the end. -/
theorem FF.end_ {k : Nat} {D : Dev} (h : FF k 40 D) (hk : k < 40) : D.refused 0 = (if 0 < k then 7 else 0) ∧ D.off = decide (0 < k) ∧ D.taken = (if 0 < k then k - 1 else 40) := by
  rcases h.c with ⟨h1, h2, h3, h4⟩ | ⟨h1, h2, h3, h4, _⟩
  · have hk0 : k = 0 := by omega
    subst hk0
    refine ⟨?_, by simp [h2], by simp [h3]⟩
    unfold Dev.refused
    rw [h2, if_neg (by simp), if_neg (by rw [h.n]; omega)]; simp
  · rw [if_pos h1, if_pos h1]
    exact ⟨by unfold Dev.refused; rw [if_pos h3], by simp [h3, h1], h4⟩
theorem FF.crash {k : Nat} {D : Dev} (h : FF k 40 D) : (D.crash []).refused 0 = 0 ∧ (D.crash []).writeE 0 [121] = 0 ∧ ((D.crash []).write 0 [121]).taken = D.taken + 1 ∧ (D.crash []).taken = D.taken ∧ (D.crash []).fall = 0 ∧ (D.crash []).ws.length = 0 := by
  have hl : (D.crash []).safe.length = 4 := by unfold Dev.crash settle; simp only [settleN_length]; exact h.n
  have hr : (D.crash []).refused 0 = 0 := by
    unfold Dev.refused
    rw [if_neg (by simp [Dev.crash]), if_neg (by rw [hl]; omega)]
  have hz : ¬ (D.crash []).refused 0 ≠ 0 := fun h => h hr
  have hg : (D.crash []).goes = true := rfl
  refine ⟨hr, ?_, ?_, rfl, rfl, rfl⟩
  · unfold Dev.writeE
    rw [if_neg hz, if_neg (by simp), if_pos hg]
  · unfold Dev.write
    rw [if_neg hz, if_neg (by simp), if_pos hg]; rfl
def tX : ByteArray := ⟨#[120]⟩
def tY : ByteArray := ⟨#[121]⟩
/-- A slice of bools. -/
structure Bools (w : World) (v : Value) (L : Nat) : Prop where
  out : ∃ a c, v = .slice a L c ∧ (0 < L → ∃ cb co, a = some ⟨cb, co, none⟩ ∧ cb < w.heap.size ∧ ∀ i, i < L → ∃ b, w.cell? ⟨cb, co + i, none⟩ = some (.bool b))
set_option maxHeartbeats 3200000 in
set_option maxRecDepth 100000 in
theorem falls_any (x : UInt8) (v : Value) (L : Nat) (w : World) (hv : Bools w v L) (hL : L ≤ maxLen) :
    Calls Try.prog 6 #[.int .u8 (x.toNat : Int), v] w fun e w' => e = .returned (.bool true) ∧ Below w.heap.size w w' := by
  unfold maxLen at hL
  obtain ⟨ba, bc, rfl, hcut⟩ := hv.out
  have hK := keeps_any w
  have hx := x.toNat_lt
  obtain ⟨k, hk⟩ : ∃ k, x.toNat % 40 = k := ⟨_, rfl⟩
  have hkm : ((x.toNat : Int)).tmod 40 = (k : Int) := by rw [Int.tmod_eq_emod_of_nonneg (by omega)]; omega
  have hk40 : k < 40 := by omega
  replace hcut := Box.mk hcut
  clear hv hk
  go_enter Try.func6, Try.ntmps6
  go_wp2_with fail
  refine hK.mono ?_
  rintro e w1 ⟨rfl, hb1⟩
  have hNw := Box.mk (new_v w.heap.size (fun _ => False) 4 w1 (by omega) (by omega) hb1.size (fun _ h => h.elim))
  replace hb1 := Box.mk hb1
  clear hK
  go_wp2_with fail
  refine hNw.out.mono ?_
  rintro e w2 ⟨bd, rfl, hD2, hB2⟩
  have hb2 := Box.mk (hb1.out.trans (hB2.out.mono hb1.out.size))
  have hF := Box.mk (hD2.out.fall (k : Int) (by omega))
  clear hNw hb1 hB2
  go_wp2_with fail
  refine hF.out.mono ?_
  rintro e w3 ⟨rfl, hD3, hO3⟩
  have hb3 := Box.mk (hb2.out.trans (hO3.out.below hD2.out.b))
  have hS := Box.mk (FF.start k hk40)
  generalize (Dev.new 4).falls (k : Int) = D0 at hD3 hS
  clear hF hD2 hb2 hO3
  go_wp2_with fail
  go_loopw [8] (fun s8 wr => ∃ (j : Nat) (D : Dev), j ≤ 40 ∧ s8 = .int .i64 ((j : Int) + 1) ∧ Box (FF k j D) ∧ Box (DV w.heap.size (fun _ => False) wr bd D) ∧ Box (Below w.heap.size w wr)) (fun s8 _ => (41 - intOf s8).toNat)
  case atStart => exact ⟨0, D0, by omega, rfl, hS, hD3, hb3⟩
  case round =>
    clear hS hD3 hb3
    obtain ⟨j, D, hj, rfl, hF, hD, hB⟩ := hrel
    by_cases hlt : j < 40
    · obtain ⟨b1, b2, b3⟩ := hF.out.bounds hk40 (by omega)
      have hBar := hD.out.barrier b1 b2
      obtain ⟨eb, hFb⟩ := hF.out.barrier
      rw [eb] at hBar
      obtain ⟨ew, hFw⟩ := hF.out.write ((j + 1) % 4) (by omega) [120] (by simp)
      have hWr := hD.out.write (((j + 1) % 4 : Nat) : Int) tX b1 b2 b3
      rw [show tX.data.toList = [120] from rfl, ew, show (((j + 1) % 4 : Nat) : Int) = ((j : Int) + 1) % 4 by omega] at hWr
      rw [show (((j + 1) % 4 : Nat) : Int) = ((j : Int) + 1) % 4 by omega] at hFw
      generalize D.write (((j : Int) + 1) % 4) [120] = Dw at hWr hFw
      generalize D.barrier = Db at hBar hFb
      replace hFb := Box.mk hFb
      replace hFw := Box.mk hFw
      clear b1 b2 b3 eb ew hF
      have hbar : (j + 1 < L ∧ ∃ cb co, ba = some ⟨cb, co, none⟩ ∧ (wr.cell? ⟨cb, co + (j + 1), none⟩ = some (.bool true) ∨ wr.cell? ⟨cb, co + (j + 1), none⟩ = some (.bool false))) ∨ L ≤ j + 1 := by
        by_cases h : j + 1 < L
        · obtain ⟨cb, co, e1, e2, e3⟩ := hcut.out (by omega)
          obtain ⟨b, hb⟩ := e3 (j + 1) h
          rw [← hB.out.cell (p := ⟨cb, _, none⟩) e2] at hb
          exact .inl ⟨h, cb, co, e1, by cases b; exact .inr hb; exact .inl hb⟩
        · exact .inr (by omega)
      rcases (by omega : k ≤ 0 ∨ (0 < k ∧ k ≤ j + 1) ∨ (0 < k ∧ j + 1 < k)) with h1 | ⟨h1, h2⟩ | ⟨h1, h2⟩
      · have hE : ffE k j = 0 := by unfold ffE; rw [if_neg (by omega)]
        rw [hE] at hBar hWr
        replace hBar := Box.mk hBar
        replace hWr := Box.mk hWr
        have hk0 : ((k : Int) == 0) = true := by rw [beq_iff_eq]; omega
        have hk1 : (k : Int) ≤ 0 := by omega
        clear hE
        rcases hbar with ⟨hlL, cb, co, rfl, hcell | hcell⟩ | hlL
        · go_wp2_with fail
          refine hBar.out.mono ?_
          rintro e w4 ⟨rfl, hD4, hO4⟩
          have hB4 := Box.mk (hB.out.trans (hO4.out.below hD.out.b))
          clear hBar hWr hD hO4 hB hcell
          go_wp2_with fail
          exact ⟨⟨j + 1, Db, by omega, by go_num, hFb, hD4, hB4⟩, by simp [intOf]; omega⟩
        · go_wp2_with fail
          refine hWr.out.mono ?_
          rintro e w4 ⟨rfl, hD4, hO4⟩
          have hB4 := Box.mk (hB.out.trans (hO4.out.below hD.out.b))
          clear hBar hWr hD hO4 hB hcell
          go_wp2_with fail
          exact ⟨⟨j + 1, Dw, by omega, by go_num, hFw, hD4, hB4⟩, by simp [intOf]; omega⟩
        · go_wp2_with fail
          refine hWr.out.mono ?_
          rintro e w4 ⟨rfl, hD4, hO4⟩
          have hB4 := Box.mk (hB.out.trans (hO4.out.below hD.out.b))
          clear hBar hWr hD hO4 hB
          go_wp2_with fail
          exact ⟨⟨j + 1, Dw, by omega, by go_num, hFw, hD4, hB4⟩, by simp [intOf]; omega⟩
      · have hE : ffE k j = 7 := by unfold ffE; rw [if_pos ⟨h1, h2⟩]
        rw [hE] at hBar hWr
        replace hBar := Box.mk hBar
        replace hWr := Box.mk hWr
        have hk0 : ((k : Int) == 0) = false := by rw [beq_eq_false_iff_ne]; omega
        clear hE
        rcases hbar with ⟨hlL, cb, co, rfl, hcell | hcell⟩ | hlL
        · go_wp2_with fail
          refine hBar.out.mono ?_
          rintro e w4 ⟨rfl, hD4, hO4⟩
          have hB4 := Box.mk (hB.out.trans (hO4.out.below hD.out.b))
          clear hBar hWr hD hO4 hB hcell
          go_wp2_with fail
          exact ⟨⟨j + 1, Db, by omega, by go_num, hFb, hD4, hB4⟩, by simp [intOf]; omega⟩
        · go_wp2_with fail
          refine hWr.out.mono ?_
          rintro e w4 ⟨rfl, hD4, hO4⟩
          have hB4 := Box.mk (hB.out.trans (hO4.out.below hD.out.b))
          clear hBar hWr hD hO4 hB hcell
          go_wp2_with fail
          exact ⟨⟨j + 1, Dw, by omega, by go_num, hFw, hD4, hB4⟩, by simp [intOf]; omega⟩
        · go_wp2_with fail
          refine hWr.out.mono ?_
          rintro e w4 ⟨rfl, hD4, hO4⟩
          have hB4 := Box.mk (hB.out.trans (hO4.out.below hD.out.b))
          clear hBar hWr hD hO4 hB
          go_wp2_with fail
          exact ⟨⟨j + 1, Dw, by omega, by go_num, hFw, hD4, hB4⟩, by simp [intOf]; omega⟩
      · have hE : ffE k j = 0 := by unfold ffE; rw [if_neg (by omega)]
        rw [hE] at hBar hWr
        replace hBar := Box.mk hBar
        replace hWr := Box.mk hWr
        have hk0 : ((k : Int) == 0) = false := by rw [beq_eq_false_iff_ne]; omega
        clear hE
        rcases hbar with ⟨hlL, cb, co, rfl, hcell | hcell⟩ | hlL
        · go_wp2_with fail
          refine hBar.out.mono ?_
          rintro e w4 ⟨rfl, hD4, hO4⟩
          have hB4 := Box.mk (hB.out.trans (hO4.out.below hD.out.b))
          clear hBar hWr hD hO4 hB hcell
          go_wp2_with fail
          exact ⟨⟨j + 1, Db, by omega, by go_num, hFb, hD4, hB4⟩, by simp [intOf]; omega⟩
        · go_wp2_with fail
          refine hWr.out.mono ?_
          rintro e w4 ⟨rfl, hD4, hO4⟩
          have hB4 := Box.mk (hB.out.trans (hO4.out.below hD.out.b))
          clear hBar hWr hD hO4 hB hcell
          go_wp2_with fail
          exact ⟨⟨j + 1, Dw, by omega, by go_num, hFw, hD4, hB4⟩, by simp [intOf]; omega⟩
        · go_wp2_with fail
          refine hWr.out.mono ?_
          rintro e w4 ⟨rfl, hD4, hO4⟩
          have hB4 := Box.mk (hB.out.trans (hO4.out.below hD.out.b))
          clear hBar hWr hD hO4 hB
          go_wp2_with fail
          exact ⟨⟨j + 1, Dw, by omega, by go_num, hFw, hD4, hB4⟩, by simp [intOf]; omega⟩
    · have hj40 : j = 40 := by omega
      subst hj40
      clear hcut
      obtain ⟨e1, e2, e3⟩ := hF.out.end_ hk40
      obtain ⟨b1, b2, b3⟩ := hF.out.bounds hk40 (by omega)
      have hRd := hD.out.read 0
      have hOf := hD.out.off
      have hSt := hD.out.steps
      rw [e2] at hOf
      rw [e3] at hSt
      have hCr := hD.out.crash (.slice none 0 0) [] (by rw [hF.out.n]; omega) b3 ⟨⟨none, 0, rfl, fun h => by cases h⟩⟩ (by simp)
      obtain ⟨c1, c2, c3, c4, c5, c6⟩ := hF.out.crash
      have hRR : ∀ T : ByteArray, (⟨(D.read 0).toArray⟩ : ByteArray) = T → readR D 0 = .tuple #[.string T, .int .i64 (if 0 < k then 7 else 0)] := fun T h => by unfold readR; rw [h, e1]
      obtain ⟨T, hT⟩ : ∃ T : ByteArray, (⟨(D.read 0).toArray⟩ : ByteArray) = T := ⟨_, rfl⟩
      rw [hRR T hT] at hRd
      clear hRR hT e1 e2
      have hC2 := Box.mk (And.intro c1 (And.intro c2 (And.intro c3 (And.intro c4 (And.intro c5 c6)))))
      have ht : Box (D.taken ≤ 1000000) := ⟨b1⟩
      have he3 := Box.mk e3
      replace hCr := Box.mk hCr
      replace hF := Box.mk hF
      clear c1 c2 c3 c4 c5 c6 b1 b2 b3 e3
      generalize hDc : D.crash [] = Dc at hCr hC2
      clear hDc
      by_cases hk0 : k = 0
      · subst hk0
        simp only [Nat.lt_irrefl, if_false, decide_false] at hRd hOf hSt he3
        replace hRd := Box.mk hRd
        replace hOf := Box.mk hOf
        replace hSt := Box.mk hSt
        go_wp2_with fail
        refine hRd.out.mono ?_
        rintro e w' ⟨rfl, rfl⟩
        go_wp2_with fail
        refine hOf.out.mono ?_
        rintro e w' ⟨rfl, rfl⟩
        go_wp2_with fail
        refine hSt.out.mono ?_
        rintro e w' ⟨rfl, rfl⟩
        clear hRd hOf hSt
        go_wp2_with fail
        refine hCr.out.mono ?_
        rintro e w4 ⟨rfl, hD4, hO4⟩
        have hB4 := Box.mk (hB.out.trans (hO4.out.below hD.out.b))
        obtain ⟨c1, c2, c3, c4, c5, c6⟩ := hC2.out
        have hRd := hD4.out.read 0
        have hWr := hD4.out.write 0 tY (by rw [c4]; exact ht.out) (by rw [c5]; omega) (by rw [c6]; omega)
        rw [show tY.data.toList = [121] from rfl, c2] at hWr
        obtain ⟨T2, hT2⟩ : ∃ T2 : ByteArray, (⟨(Dc.read 0).toArray⟩ : ByteArray) = T2 := ⟨_, rfl⟩
        have hRR : readR Dc 0 = .tuple #[.string T2, .int .i64 0] := by unfold readR; rw [hT2, c1]
        rw [hRR] at hRd
        have hc3 := Box.mk c3
        replace hRd := Box.mk hRd
        replace hWr := Box.mk hWr
        clear hCr hC2 hD hO4 hB hT2 hRR c1 c2 c3 c4 c5 c6 hF
        go_wp2_with fail
        refine hRd.out.mono ?_
        rintro e w' ⟨rfl, rfl⟩
        clear hRd
        go_wp2_with fail
        refine hWr.out.mono ?_
        rintro e w5 ⟨rfl, hD5, hO5⟩
        have hB5 := Box.mk (hB4.out.trans (hO5.out.below hD4.out.b))
        have hSt := hD5.out.steps
        rw [hc3.out, he3.out] at hSt
        replace hSt := Box.mk hSt
        clear hWr hD4 hO5 hB4 hD5
        go_wp2_with fail
        refine hSt.out.mono ?_
        rintro e w' ⟨rfl, rfl⟩
        clear hSt
        go_wp2_with fail
        go_ret
        exact ⟨rfl, hB5.out⟩
      · have hkp : 0 < k := by omega
        simp only [hkp, if_true, decide_true] at hRd hOf hSt he3
        rw [show ((k - 1 : Nat) : Int) = (k : Int) - 1 by omega] at hSt
        replace hRd := Box.mk hRd
        replace hOf := Box.mk hOf
        replace hSt := Box.mk hSt
        go_wp2_with fail
        refine hRd.out.mono ?_
        rintro e w' ⟨rfl, rfl⟩
        go_wp2_with fail
        refine hOf.out.mono ?_
        rintro e w' ⟨rfl, rfl⟩
        go_wp2_with fail
        refine hSt.out.mono ?_
        rintro e w' ⟨rfl, rfl⟩
        clear hRd hOf hSt
        go_wp2_with fail
        refine hCr.out.mono ?_
        rintro e w4 ⟨rfl, hD4, hO4⟩
        have hB4 := Box.mk (hB.out.trans (hO4.out.below hD.out.b))
        obtain ⟨c1, c2, c3, c4, c5, c6⟩ := hC2.out
        have hRd := hD4.out.read 0
        have hWr := hD4.out.write 0 tY (by rw [c4]; exact ht.out) (by rw [c5]; omega) (by rw [c6]; omega)
        rw [show tY.data.toList = [121] from rfl, c2] at hWr
        obtain ⟨T2, hT2⟩ : ∃ T2 : ByteArray, (⟨(Dc.read 0).toArray⟩ : ByteArray) = T2 := ⟨_, rfl⟩
        have hRR : readR Dc 0 = .tuple #[.string T2, .int .i64 0] := by unfold readR; rw [hT2, c1]
        rw [hRR] at hRd
        have hc3 := Box.mk c3
        replace hRd := Box.mk hRd
        replace hWr := Box.mk hWr
        clear hCr hC2 hD hO4 hB hT2 hRR c1 c2 c3 c4 c5 c6 hF
        go_wp2_with fail
        refine hRd.out.mono ?_
        rintro e w' ⟨rfl, rfl⟩
        clear hRd
        go_wp2_with fail
        refine hWr.out.mono ?_
        rintro e w5 ⟨rfl, hD5, hO5⟩
        have hB5 := Box.mk (hB4.out.trans (hO5.out.below hD4.out.b))
        have hSt := hD5.out.steps
        rw [hc3.out, he3.out] at hSt
        rw [show ((k - 1 + 1 : Nat) : Int) = (k : Int) by omega] at hSt
        replace hSt := Box.mk hSt
        clear hWr hD4 hO5 hB4 hD5
        go_wp2_with fail
        refine hSt.out.mono ?_
        rintro e w' ⟨rfl, rfl⟩
        clear hSt
        go_wp2_with fail
        go_ret
        exact ⟨rfl, hB5.out⟩
end Go.Proofs.Ytcccokdbgmejdaa
