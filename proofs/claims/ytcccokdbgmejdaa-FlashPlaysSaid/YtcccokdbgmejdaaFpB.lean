/- The document's device: Read. -/
import Derived.Test.YtcccokdbgmejdaaFpA
namespace Go.Proofs.Ytcccokdbgmejdaa
open Go.RowKit

theorem runW_other (s : List Sec) (ws : List WrD) (n : Nat) : ∀ i, i ≤ ws.length → (∀ j (h : j < ws.length), i ≤ j → (ws[j]).1 ≠ n) → (runW s ws).getD n zeroS = (runW s (ws.take i)).getD n zeroS := by
  intro i hi
  obtain ⟨m, hm⟩ : ∃ m, ws.length - i = m := ⟨_, rfl⟩
  induction m generalizing i with
  | zero => intro _; rw [List.take_of_length_le (by omega)]
  | succ m ih =>
    intro hj
    rw [ih (i + 1) (by omega) (by omega) (fun j h h1 => hj j h (by omega)), List.take_succ_eq_append_getElem (show i < ws.length by omega), runW_snoc, List.getD_eq_getElem?_getD, List.getElem?_set_ne (hj i (by omega) (Nat.le_refl _)), ← List.getD_eq_getElem?_getD]
theorem runW_last (s : List Sec) (ws : List WrD) (n : Nat) (i : Nat) (hi : i < ws.length) (hn : n < s.length) (he : (ws[i]).1 = n) (h : ∀ j (h : j < ws.length), i + 1 ≤ j → (ws[j]).1 ≠ n) : (runW s ws).getD n zeroS = (ws[i]).2 := by
  rw [runW_other s ws n (i + 1) hi h, List.take_succ_eq_append_getElem hi, runW_snoc, he, List.getD_eq_getElem?_getD, List.getElem?_set_self (by rw [runW_length]; exact hn)]; rfl
set_option maxHeartbeats 1600000 in
theorem qread_fit (bw : Nat) (F : Nat → Prop) (D : Dev) (n : Nat) (w : World) (h : QAt w bw F D) (hr : D.refused n = 0) (hn : n < D.safe.length) (hws : D.ws.length ≤ 1000000) :
    Calls Try.prog 29 #[.pointer (some ⟨bw, 0, none⟩), .int .i64 (n : Int)] w fun e w' => e = .returned (.tuple #[.string (bt (D.seen.getD n zeroS)), .int .i64 0]) ∧ w = w' := by
  have hin := qin_any bw F D n w h
  rw [hr] at hin
  have hIn := Box.mk hin
  obtain ⟨vs, vp, hb, hs, hp, _, _⟩ := h.out
  obtain ⟨ga, gc, rfl, hgl⟩ := hs.some (by omega)
  obtain ⟨pa, pc, rfl⟩ := hp.shape
  have c0 : w.cell? ⟨bw, 0, none⟩ = some (.slice (some ⟨ga, 0, none⟩) D.safe.length gc) := hb.cell 0
  have c1 : w.cell? ⟨bw, 1, none⟩ = some (.slice pa D.ws.length pc) := hb.cell 1
  have cs : w.cell? ⟨ga, n, none⟩ = some (.string (bt (D.safe.getD n zeroS))) := hs.cells n _ (strs_get _ _ hn)
  have hpB := Box.mk hp
  clear hin hb hs hp h
  obtain ⟨N, hN⟩ : ∃ N, D.safe.length = N := ⟨_, rfl⟩
  obtain ⟨M, hM⟩ : ∃ M, D.ws.length = M := ⟨_, rfl⟩
  obtain ⟨T, hT⟩ : ∃ T, D.seen.getD n zeroS = T := ⟨_, rfl⟩
  rw [hN] at c0 hn
  rw [hM] at c1 hws
  rw [hT]
  replace hN := Box.mk hN
  replace hM := Box.mk hM
  replace hT := Box.mk hT
  go_enter Try.func29, Try.ntmps29
  go_wp2_with fail
  refine hIn.out.mono ?_
  rintro e w' ⟨rfl, rfl⟩
  clear hIn
  go_wp2_with fail
  go_loopw [7] (fun s7 wr => ∃ i : Nat, i ≤ M ∧ s7 = .int .i64 ((i : Int) - 1) ∧ wr = w ∧ Box (∀ j (h : j < D.ws.length), i ≤ j → (D.ws[j]).1 ≠ n)) (fun s7 _ => (intOf s7 + 1).toNat)
  case atStart => exact ⟨M, by omega, rfl, rfl, ⟨fun j hj h => by have := hM.out; omega⟩⟩
  case round =>
    obtain ⟨i, hi, rfl, rfl, hK⟩ := hrel
    by_cases h0 : i = 0
    · subst h0
      have he : T = D.safe.getD n zeroS := by
        rw [← hT.out]
        unfold Dev.seen
        rw [runW_other D.safe D.ws n 0 (Nat.zero_le _) (fun j h h1 => hK.out j h h1)]; rfl
      rw [← he] at cs
      clear hK hT he
      go_wp2_with fail
      go_returns
      exact ⟨rfl, rfl⟩
    · obtain ⟨k, rfl⟩ : ∃ k, i = k + 1 := ⟨i - 1, by omega⟩
      have hk : k < D.ws.length := by have := hM.out; omega
      have hkM : k < M := by omega
      obtain ⟨ga2, gc2, he2, _⟩ := hpB.out.some (by omega)
      cases he2
      obtain ⟨w0, w1⟩ := wcs_get D.ws k hk
      have d0 := hpB.out.cells _ _ w0
      have d1 := hpB.out.cells _ _ w1
      by_cases hx : (D.ws[k]).1 = n
      · have he : T = (D.ws[k]).2 := by
          rw [← hT.out]
          unfold Dev.seen
          exact runW_last D.safe D.ws n k hk (by have := hN.out; omega) hx (fun j h h1 => hK.out j h h1)
        rw [hx] at d0
        rw [← he] at d1
        clear hK hT he hx w0 w1 hpB
        go_wp2_with fail
        go_returns
        exact ⟨rfl, rfl⟩
      · have hx2 : ¬ (((D.ws[k]).1 : Int) = (n : Int)) := by omega
        have hx3 : (((D.ws[k]).1 : Int) == (n : Int)) = false := by rw [beq_eq_false_iff_ne]; exact hx2
        have hK2 : Box (∀ j (h : j < D.ws.length), k ≤ j → (D.ws[j]).1 ≠ n) := ⟨fun j h h1 => by
          by_cases hj : j = k
          · subst hj; exact hx
          · exact hK.out j h (by omega)⟩
        generalize (D.ws[k]).1 = q at *
        clear hK w0 w1 d1
        go_wp2_with fail
        exact ⟨⟨k, by omega, by go_num, trivial, hK2⟩, by simp [intOf]⟩
theorem qread_any (bw : Nat) (F : Nat → Prop) (D : Dev) (n : Int) (w : World) (h : QAt w bw F D) (hws : D.ws.length ≤ 1000000) :
    Calls Try.prog 29 #[.pointer (some ⟨bw, 0, none⟩), .int .i64 n] w fun e w' => e = .returned (readR D n) ∧ w = w' := by
  unfold readR Dev.read
  by_cases hr : D.refused n = 0
  · rw [if_neg (by simpa using hr), hr]
    obtain ⟨h1, k, rfl, h2⟩ := refused_zero hr
    exact qread_fit bw F D k w h hr h2 hws
  · rw [if_pos hr]
    have hIn := Box.mk (qin_any bw F D n w h)
    generalize D.refused n = e at *
    have hz : (e == 0) = false := by rw [beq_eq_false_iff_ne]; exact hr
    go_enter Try.func29, Try.ntmps29
    go_wp2_with fail
    refine hIn.out.mono ?_
    rintro e w' ⟨rfl, rfl⟩
    clear hIn
    go_wp2_with fail
    go_returns
    exact ⟨rfl, rfl⟩
end Go.Proofs.Ytcccokdbgmejdaa
