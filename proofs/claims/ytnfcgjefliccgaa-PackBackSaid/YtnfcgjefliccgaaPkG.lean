/- Walks of the document's reader, against the same model. -/
import Derived.Test.YtnfcgjefliccgaaPkF
namespace Go.Proofs.Ytnfcgjefliccgaa
open Go.RowKit

theorem ofInt_i64' (a : Nat) (ha : a < 18446744073709551616) : (BitVec.ofInt 64 (a : Int)).toNat = a := by
  rw [BitVec.toNat_ofInt]; omega
theorem i64_or_nat (a b : Nat) (ha : a < 9223372036854775808) (hb : b < 9223372036854775808) : bits .or .i64 (a : Int) (b : Int) = ((a ||| b : Nat) : Int) := by
  have hx : a ||| b < 2 ^ 63 := Nat.or_lt_two_pow (by omega) (by omega)
  show IntKind.i64.wrap ((BitVec.ofInt 64 (a : Int) ||| BitVec.ofInt 64 (b : Int)).toNat : Int) = _
  rw [BitVec.toNat_or, ofInt_i64' a (by omega), ofInt_i64' b (by omega), IntKind.wrap_i64]
  omega

set_option maxHeartbeats 400000 in
theorem xfail_any (b : Nat) (l : List UInt8) (e e' : Int) (w : World) (h : RAt w b 47 l e) :
    Calls Try.prog 39 #[.pointer (some ⟨b, 0, none⟩), .int .i64 e'] w fun r w' => r = .returned (.tuple #[]) ∧ RNext w b 47 l (failE e e') w' := by
  have c1 : w.cell? ⟨b, 1, none⟩ = some (.int .i64 e) := h.cell 1
  have f1 := h.free 1
  replace h := Box.mk h
  by_cases h0 : e = 0
  · subst h0
    go_enter Try.func39, Try.ntmps39
    go_wp2
    go_returns
    exact ⟨rfl, (RNext.same h.out).err e'⟩
  · have h1 : (e == 0) = false := by simpa using h0
    go_enter Try.func39, Try.ntmps39
    go_wp2
    go_returns
    refine ⟨rfl, ?_⟩
    rw [failE, if_neg h0]
    exact RNext.same h.out
set_option maxHeartbeats 400000 in
theorem xend_any (b : Nat) (l : List UInt8) (e : Int) (w : World) (h : RAt w b 47 l e) :
    Calls Try.prog 15 #[.pointer (some ⟨b, 0, none⟩)] w fun r w' => r = .returned (.int .i64 (endE l e)) ∧ RNext w b 47 l (endE l e) w' := by
  have c0 : w.cell? ⟨b, 0, none⟩ = some (.string (btx l)) := h.cell 0
  have c1 : w.cell? ⟨b, 1, none⟩ = some (.int .i64 e) := h.cell 1
  have hs := mk_size l
  have h2 := xfail_any b l e 3 w h
  replace h := Box.mk h
  by_cases hlt : 0 < l.length
  · rw [endE, if_pos hlt]
    replace h2 := Box.mk h2
    go_enter Try.func15, Try.ntmps15
    go_wp2_with fail
    refine h2.out.mono ?_
    rintro r w' ⟨rfl, hR⟩
    have c2 : w'.cell? ⟨b, 1, none⟩ = some (.int .i64 (failE e 3)) := hR.at_.cell 1
    replace hR := Box.mk hR
    go_wp2_with fail
    go_returns
    exact ⟨rfl, hR.out⟩
  · rw [endE, if_neg hlt]
    go_enter Try.func15, Try.ntmps15
    go_wp2_with fail
    go_returns
    exact ⟨rfl, RNext.same h.out⟩
set_option maxHeartbeats 800000 in
set_option maxRecDepth 100000 in
theorem xraw_any (b : Nat) (l : List UInt8) (e n : Int) (w : World) (h : RAt w b 47 l e) :
    Calls Try.prog 38 #[.pointer (some ⟨b, 0, none⟩), .int .i64 n] w fun r w' => r = .returned (.string (btx (rawR n l e).1)) ∧ RNext w b 47 (rawR n l e).2.1 (rawR n l e).2.2 w' := by
  have c0 : w.cell? ⟨b, 0, none⟩ = some (.string (btx l)) := h.cell 0
  have c1 : w.cell? ⟨b, 1, none⟩ = some (.int .i64 e) := h.cell 1
  have f0 := h.free 0
  have hs := mk_size l
  have hf1 := xfail_any b l e 1 w h
  have hf2 := xfail_any b l e 2 w h
  replace h := Box.mk h
  replace hf1 := Box.mk hf1
  replace hf2 := Box.mk hf2
  by_cases he : e = 0
  · subst he
    by_cases hn : n < 0
    · have hR : rawR n l 0 = ([], l, 1) := by simp [rawR, hn]
      rw [hR]
      clear hR
      go_enter Try.func38, Try.ntmps38
      go_wp2_with fail
      refine hf1.out.mono ?_
      rintro r w' ⟨rfl, hN⟩
      replace hN := Box.mk hN
      go_wp2_with fail
      go_returns
      exact ⟨rfl, hN.out⟩
    · obtain ⟨m, rfl⟩ : ∃ m : Nat, n = m := ⟨n.toNat, by omega⟩
      by_cases hlt : (l.length : Int) < m
      · have hR : rawR m l 0 = ([], l, 2) := by simp [rawR, hn, show l.length < m by omega]
        rw [hR]
        clear hR
        go_enter Try.func38, Try.ntmps38
        go_wp2_with fail
        refine hf2.out.mono ?_
        rintro r w' ⟨rfl, hN⟩
        replace hN := Box.mk hN
        go_wp2_with fail
        go_returns
        exact ⟨rfl, hN.out⟩
      · have hR : rawR m l 0 = (l.take m, l.drop m, 0) := by simp [rawR, hn, show ¬ l.length < m by omega]
        rw [hR]
        clear hR
        have x1 : (btx l).extract 0 m = btx (l.take m) := by rw [mk_cut]; rfl
        have x2 : (btx l).extract m l.length = btx (l.drop m) := by rw [mk_cut, List.take_of_length_le (Nat.le_refl _)]
        go_enter Try.func38, Try.ntmps38
        go_wp2_with fail
        go_returns
        exact ⟨rfl, (RNext.same h.out).left _⟩
  · have hR : rawR n l e = ([], l, e) := by simp [rawR, he]
    have hf : (e == 0) = false := by simpa using he
    rw [hR]
    clear hR
    go_enter Try.func38, Try.ntmps38
    go_wp2_with fail
    go_returns
    exact ⟨rfl, RNext.same h.out⟩
/-- The answer of a raw reading of k bytes, as a number, is that of a number of k bytes, where the first byte isn't too great. -/
theorem raw_num (k : Nat) (l : List UInt8) (e : Int) (h : e = 0 → k ≤ l.length → numL (l.take k) ≤ 9223372036854775807) :
    ((numL (rawR k l e).1 : Int) = (numR k l e).1) ∧ (rawR k l e).2 = (numR k l e).2 := by
  by_cases he : e = 0
  · subst he
    by_cases hlt : l.length < k
    · simp [rawR, numR, hlt, numL, show ¬ ((k : Int) < 0) by omega]
    · have h1 := h rfl (by omega)
      simp [rawR, numR, hlt, show ¬ ((k : Int) < 0) by omega, show ¬ 9223372036854775807 < numL (l.take k) by omega]
  · simp [rawR, numR, he, numL]
theorem numL_mono (l : List UInt8) : ∀ i, i ≤ l.length → ∀ j, i + j ≤ l.length → numL (l.take i) ≤ numL (l.take (i + j))
  | i, hi, 0, _ => Nat.le_refl _
  | i, hi, j + 1, hj => by
    have h1 := numL_mono l i hi j (by omega)
    have h2 := numL_take l (i + j) (by omega)
    rw [show i + (j + 1) = i + j + 1 by omega, h2]; omega
theorem numL_fit (l : List UInt8) (h : numL l ≤ 9223372036854775807) (i : Nat) (hi : i < l.length) : numL (l.take (i + 1)) ≤ 9223372036854775807 := by
  have h1 := numL_mono l (i + 1) (by omega) (l.length - (i + 1)) (by omega)
  rw [show i + 1 + (l.length - (i + 1)) = l.length by omega, List.take_length] at h1
  omega
theorem numL_top (l : List UInt8) (h : l.length = 8) : (l.getD 0 0).toNat < 128 ↔ numL l ≤ 9223372036854775807 := by
  match l, h with
  | [a0, a1, a2, a3, a4, a5, a6, a7], _ =>
    have h0 := a0.toNat_lt; have h1 := a1.toNat_lt; have h2 := a2.toNat_lt; have h3 := a3.toNat_lt
    have h4 := a4.toNat_lt; have h5 := a5.toNat_lt; have h6 := a6.toNat_lt; have h7 := a7.toNat_lt
    simp [numL]
    omega
end Go.Proofs.Ytnfcgjefliccgaa
