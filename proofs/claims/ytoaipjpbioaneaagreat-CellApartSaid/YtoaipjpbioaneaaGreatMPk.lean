/- Walks of the document's reader, against the same model. | Walks of the document's reader: numbers. | Walks of the document's reader: numbers. | Walks of the document's reader: texts; the two readers made; one call of both. -/
import Derived.Test.YtoaipjpbioaneaaGreatPkF
import Derived.Test.YtoaipjpbioaneaaGreatQg
namespace Go.Proofs.YtoaipjpbioaneaaGreat
open Go.RowKit

theorem ofInt_i64' (a : Nat) (ha : a < 18446744073709551616) : (BitVec.ofInt 64 (a : Int)).toNat = a := by
  rw [BitVec.toNat_ofInt]; omega
theorem i64_or_nat (a b : Nat) (ha : a < 9223372036854775808) (hb : b < 9223372036854775808) : bits .or .i64 (a : Int) (b : Int) = ((a ||| b : Nat) : Int) := by
  have hx : a ||| b < 2 ^ 63 := Nat.or_lt_two_pow (by omega) (by omega)
  show IntKind.i64.wrap ((BitVec.ofInt 64 (a : Int) ||| BitVec.ofInt 64 (b : Int)).toNat : Int) = _
  rw [BitVec.toNat_or, ofInt_i64' a (by omega), ofInt_i64' b (by omega), IntKind.wrap_i64]
  omega

set_option maxHeartbeats 400000 in
theorem xfail_any (b : Nat) (l : List UInt8) (e e' : Int) (w : World) (h : RAt w b 129 l e) :
    Calls Tryz.prog 95 #[.pointer (some ⟨b, 0, none⟩), .int .i64 e'] w fun r w' => r = .returned (.tuple #[]) ∧ RNext w b 129 l (failE e e') w' := by
  have c1 : w.cell? ⟨b, 1, none⟩ = some (.int .i64 e) := h.cell 1
  have f1 := h.free 1
  replace h := Box.mk h
  by_cases h0 : e = 0
  · subst h0
    go_enter Tryz.func95, Tryz.ntmps95
    go_wp2
    go_returns
    exact ⟨rfl, (RNext.same h.out).err e'⟩
  · have h1 : (e == 0) = false := by simpa using h0
    go_enter Tryz.func95, Tryz.ntmps95
    go_wp2
    go_returns
    refine ⟨rfl, ?_⟩
    rw [failE, if_neg h0]
    exact RNext.same h.out
set_option maxHeartbeats 400000 in
theorem xend_any (b : Nat) (l : List UInt8) (e : Int) (w : World) (h : RAt w b 129 l e) :
    Calls Tryz.prog 98 #[.pointer (some ⟨b, 0, none⟩)] w fun r w' => r = .returned (.int .i64 (endE l e)) ∧ RNext w b 129 l (endE l e) w' := by
  have c0 : w.cell? ⟨b, 0, none⟩ = some (.string (btx l)) := h.cell 0
  have c1 : w.cell? ⟨b, 1, none⟩ = some (.int .i64 e) := h.cell 1
  have hs := mk_size l
  have h2 := xfail_any b l e 3 w h
  replace h := Box.mk h
  by_cases hlt : 0 < l.length
  · rw [endE, if_pos hlt]
    replace h2 := Box.mk h2
    go_enter Tryz.func98, Tryz.ntmps98
    go_wp2_with fail
    refine h2.out.mono ?_
    rintro r w' ⟨rfl, hR⟩
    have c2 : w'.cell? ⟨b, 1, none⟩ = some (.int .i64 (failE e 3)) := hR.at_.cell 1
    replace hR := Box.mk hR
    go_wp2_with fail
    go_returns
    exact ⟨rfl, hR.out⟩
  · rw [endE, if_neg hlt]
    go_enter Tryz.func98, Tryz.ntmps98
    go_wp2_with fail
    go_returns
    exact ⟨rfl, RNext.same h.out⟩
set_option maxHeartbeats 800000 in
set_option maxRecDepth 100000 in
theorem xraw_any (b : Nat) (l : List UInt8) (e n : Int) (w : World) (h : RAt w b 129 l e) :
    Calls Tryz.prog 96 #[.pointer (some ⟨b, 0, none⟩), .int .i64 n] w fun r w' => r = .returned (.string (btx (rawR n l e).1)) ∧ RNext w b 129 (rawR n l e).2.1 (rawR n l e).2.2 w' := by
  have c0 : w.cell? ⟨b, 0, none⟩ = some (.string (btx l)) := h.cell 0
  have c1 : w.cell? ⟨b, 1, none⟩ = some (.int .i64 e) := h.cell 1
  have f0 := h.free 0
  have hs := mk_size l
  have hf1 := xfail_any b l e 1 w h
  have hf2 := xfail_any b l e 2 w h
  replace h := Box.mk h
  replace hf1 := Box.mk hf1
  replace hf2 := Box.mk hf2
  by_cases he : e = 0
  · subst he
    by_cases hn : n < 0
    · have hR : rawR n l 0 = ([], l, 1) := by simp [rawR, hn]
      rw [hR]
      clear hR
      go_enter Tryz.func96, Tryz.ntmps96
      go_wp2_with fail
      refine hf1.out.mono ?_
      rintro r w' ⟨rfl, hN⟩
      replace hN := Box.mk hN
      go_wp2_with fail
      go_returns
      exact ⟨rfl, hN.out⟩
    · obtain ⟨m, rfl⟩ : ∃ m : Nat, n = m := ⟨n.toNat, by omega⟩
      by_cases hlt : (l.length : Int) < m
      · have hR : rawR m l 0 = ([], l, 2) := by simp [rawR, hn, show l.length < m by omega]
        rw [hR]
        clear hR
        go_enter Tryz.func96, Tryz.ntmps96
        go_wp2_with fail
        refine hf2.out.mono ?_
        rintro r w' ⟨rfl, hN⟩
        replace hN := Box.mk hN
        go_wp2_with fail
        go_returns
        exact ⟨rfl, hN.out⟩
      · have hR : rawR m l 0 = (l.take m, l.drop m, 0) := by simp [rawR, hn, show ¬ l.length < m by omega]
        rw [hR]
        clear hR
        have x1 : (btx l).extract 0 m = btx (l.take m) := by rw [mk_cut]; rfl
        have x2 : (btx l).extract m l.length = btx (l.drop m) := by rw [mk_cut, List.take_of_length_le (Nat.le_refl _)]
        go_enter Tryz.func96, Tryz.ntmps96
        go_wp2_with fail
        go_returns
        exact ⟨rfl, (RNext.same h.out).left _⟩
  · have hR : rawR n l e = ([], l, e) := by simp [rawR, he]
    have hf : (e == 0) = false := by simpa using he
    rw [hR]
    clear hR
    go_enter Tryz.func96, Tryz.ntmps96
    go_wp2_with fail
    go_returns
    exact ⟨rfl, RNext.same h.out⟩
/-- The answer of a raw reading of k bytes, as a number, is that of a number of k bytes, where the first byte isn't too great. -/
theorem raw_num (k : Nat) (l : List UInt8) (e : Int) (h : e = 0 → k ≤ l.length → numL (l.take k) ≤ 9223372036854775807) :
    ((numL (rawR k l e).1 : Int) = (numR k l e).1) ∧ (rawR k l e).2 = (numR k l e).2 := by
  by_cases he : e = 0
  · subst he
    by_cases hlt : l.length < k
    · simp [rawR, numR, hlt, numL, show ¬ ((k : Int) < 0) by omega]
    · have h1 := h rfl (by omega)
      simp [rawR, numR, hlt, show ¬ ((k : Int) < 0) by omega, show ¬ 9223372036854775807 < numL (l.take k) by omega]
  · simp [rawR, numR, he, numL]
theorem numL_mono (l : List UInt8) : ∀ i, i ≤ l.length → ∀ j, i + j ≤ l.length → numL (l.take i) ≤ numL (l.take (i + j))
  | i, hi, 0, _ => Nat.le_refl _
  | i, hi, j + 1, hj => by
    have h1 := numL_mono l i hi j (by omega)
    have h2 := numL_take l (i + j) (by omega)
    rw [show i + (j + 1) = i + j + 1 by omega, h2]; omega
theorem numL_fit (l : List UInt8) (h : numL l ≤ 9223372036854775807) (i : Nat) (hi : i < l.length) : numL (l.take (i + 1)) ≤ 9223372036854775807 := by
  have h1 := numL_mono l (i + 1) (by omega) (l.length - (i + 1)) (by omega)
  rw [show i + 1 + (l.length - (i + 1)) = l.length by omega, List.take_length] at h1
  omega
theorem numL_top (l : List UInt8) (h : l.length = 8) : (l.getD 0 0).toNat < 128 ↔ numL l ≤ 9223372036854775807 := by
  match l, h with
  | [a0, a1, a2, a3, a4, a5, a6, a7], _ =>
    have h0 := a0.toNat_lt; have h1 := a1.toNat_lt; have h2 := a2.toNat_lt; have h3 := a3.toNat_lt
    have h4 := a4.toNat_lt; have h5 := a5.toNat_lt; have h6 := a6.toNat_lt; have h7 := a7.toNat_lt
    simp [numL]
    omega
end Go.Proofs.YtoaipjpbioaneaaGreat

namespace Go.Proofs.YtoaipjpbioaneaaGreat
open Go.RowKit

set_option maxHeartbeats 3200000 in
set_option maxRecDepth 100000 in
theorem xnumber_low (b : Nat) (l : List UInt8) (e : Int) (k : Nat) (w : World) (h : RAt w b 129 l e) (hk : k ≤ 7) :
    Calls Tryz.prog 73 #[.pointer (some ⟨b, 0, none⟩), .int .i64 (k : Int)] w fun r w' => r = .returned (.int .i64 (numR k l e).1) ∧ RNext w b 129 (numR k l e).2.1 (numR k l e).2.2 w' := by
  have hRaw := xraw_any b l e k w h
  have hb : ∀ q : List UInt8, q.length ≤ k → numL q ≤ 9223372036854775807 := fun q hq => by
    have h1 := numL_lt q.length q rfl
    have h2 : 256 ^ q.length ≤ 256 ^ 7 := Nat.pow_le_pow_right (by omega) (by omega)
    have : (256 : Nat) ^ 7 = 72057594037927936 := by decide
    omega
  obtain ⟨hv1, hv2⟩ := raw_num k l e (fun _ _ => hb _ (by rw [List.length_take]; omega))
  have hrl : (rawR k l e).1.length ≤ k := by
    unfold rawR; split
    · simp
    · split
      · simp
      · split
        · simp
        · simp only [Int.toNat_natCast, List.length_take]; omega
  have hf := hb _ hrl
  rw [hv2] at hRaw
  generalize numR k l e = R at hv1 hRaw ⊢
  generalize rawR k l e = P at hv1 hRaw hf hrl
  obtain ⟨s, hs⟩ : ∃ s, btx P.1 = s := ⟨_, rfl⟩
  have hsd : s.data.toList = P.1 := by rw [← hs]; rfl
  have hss : s.size ≤ 8 := by rw [← data_len, hsd]; omega
  rw [hs] at hRaw
  rw [← hsd] at hv1 hf
  have hfit : Box (∀ i, i < s.size → numL (s.data.toList.take (i + 1)) ≤ 9223372036854775807) := ⟨fun i hi => numL_fit _ hf i (by rw [data_len]; exact hi)⟩
  have hval := Box.mk hv1
  replace hRaw := Box.mk hRaw
  have hk8 : ((k : Int) == 8) = false := by simp; omega
  clear h hb hv1 hv2 hrl hf hs hsd
  go_enter Tryz.func73, Tryz.ntmps73
  go_wp2_with fail
  refine hRaw.out.mono ?_
  rintro r w2 ⟨rfl, hN⟩
  replace hN := Box.mk hN
  go_wp2_with fail
  go_loopw [6, 7] (fun s6 s7 wr => ∃ i : Nat, i ≤ s.size ∧ s7 = .int .i64 i ∧ s6 = .int .i64 (numL (s.data.toList.take i) : Int) ∧ w2 = wr) (fun _ s7 _ => s.size - (intOf s7).toNat)
  case atStart => exact ⟨0, by omega, rfl, rfl, rfl⟩
  case round =>
    obtain ⟨i, hi, rfl, rfl, rfl⟩ := hrel
    by_cases hlt : i < s.size
    · obtain ⟨x, hx⟩ : ∃ x, s[i] = x := ⟨_, rfl⟩
      have hst := numL_take s.data.toList i (by rw [data_len]; exact hlt)
      have hgx : s.data.toList.getD i 0 = x := by
        rw [← hx]
        have := mk_get s.data.toList i hlt
        exact this.symm
      rw [hgx] at hst
      have hnb := hfit.out i hlt
      rw [hst] at hnb
      obtain ⟨n, hn⟩ : ∃ n, numL (s.data.toList.take i) = n := ⟨_, rfl⟩
      rw [hn] at hst hnb
      have hxl := x.toNat_lt
      have hor : bits .or .i64 ((n : Int) * 256) (x.toNat : Int) = ((n * 256 + x.toNat : Nat) : Int) := by
        have := i64_or_nat (n * 256) x.toNat (by omega) (by omega)
        rw [or_byte] at this
        exact_mod_cast this
      have hwx : IntKind.i64.wrap (x.toNat : Int) = (x.toNat : Int) := by rw [IntKind.wrap_i64]; omega
      replace hst := Box.mk hst
      clear hgx
      go_wp2_with fail
      exact ⟨⟨i + 1, by omega, by go_num, by rw [hst.out]; exact u_eq (by omega), trivial⟩, by simp [intOf]; omega⟩
    · obtain rfl : i = s.size := by omega
      rw [List.take_of_length_le (by rw [data_len]; exact Nat.le_refl _)]
      go_wp2_with fail
      go_returns
      exact ⟨by rw [hval.out]; rfl, hN.out⟩
end Go.Proofs.YtoaipjpbioaneaaGreat

namespace Go.Proofs.YtoaipjpbioaneaaGreat
open Go.RowKit

theorem raw8_len (l : List UInt8) (e : Int) : (rawR 8 l e).1.length ≤ 8 := by
  by_cases he : e = 0
  · by_cases hl : (l.length : Int) < 8
    · simp [rawR, he, hl]
    · simp [rawR, he, hl]; omega
  · simp [rawR, he]
theorem raw8_num (l : List UInt8) (e : Int) (hb : e = 0 → 8 ≤ l.length → numL (l.take 8) ≤ 9223372036854775807) : numL (rawR 8 l e).1 ≤ 9223372036854775807 := by
  by_cases he : e = 0
  · by_cases hl : (l.length : Int) < 8
    · simp [rawR, he, hl, numL]
    · have := hb he (by omega)
      simpa [rawR, he, hl] using this
  · simp [rawR, he, numL]
set_option maxHeartbeats 3200000 in
set_option maxRecDepth 100000 in
theorem xnumber_err (b : Nat) (l : List UInt8) (e : Int) (w : World) (h : RAt w b 129 l e) (he : e ≠ 0) :
    Calls Tryz.prog 73 #[.pointer (some ⟨b, 0, none⟩), .int .i64 8] w fun r w' => r = .returned (.int .i64 (numR 8 l e).1) ∧ RNext w b 129 (numR 8 l e).2.1 (numR 8 l e).2.2 w' := by
  have hb : e = 0 → 8 ≤ l.length → numL (l.take 8) ≤ 9223372036854775807 := fun h _ => absurd h he
  have hrl := raw8_num l e hb
  have hll := raw8_len l e
  have hRaw := xraw_any b l e 8 w h
  obtain ⟨hv1, hv2⟩ := raw_num 8 l e hb
  change (numL (rawR 8 l e).1 : Int) = (numR 8 l e).1 at hv1
  change (rawR 8 l e).2 = (numR 8 l e).2 at hv2
  rw [hv2] at hRaw
  generalize numR 8 l e = R at hv1 hRaw ⊢
  generalize rawR 8 l e = P at hv1 hRaw hrl hll
  obtain ⟨s, hs⟩ : ∃ s, btx P.1 = s := ⟨_, rfl⟩
  have hsd : s.data.toList = P.1 := by rw [← hs]; rfl
  have hss : s.size ≤ 8 := by rw [← data_len, hsd]; exact hll
  rw [hs] at hRaw
  rw [← hsd] at hv1 hrl
  have hfit : Box (∀ i, i < s.size → numL (s.data.toList.take (i + 1)) ≤ 9223372036854775807) := ⟨fun i hi => numL_fit _ hrl i (by rw [data_len]; exact hi)⟩
  have hval := Box.mk hv1
  replace hRaw := Box.mk hRaw
  have c0 : w.cell? ⟨b, 0, none⟩ = some (.string (btx l)) := h.cell 0
  have c1 : w.cell? ⟨b, 1, none⟩ = some (.int .i64 e) := h.cell 1
  have hsz := mk_size l
  have hf0 : (e == 0) = false := by simpa using he
  clear hv1 hv2 hrl hll hs hsd hb
  clear h
  go_enter Tryz.func73, Tryz.ntmps73
  go_wp2_with fail
  refine hRaw.out.mono ?_
  rintro r w2 ⟨rfl, hN⟩
  replace hN := Box.mk hN
  go_wp2_with fail
  go_loopw [6, 7] (fun s6 s7 wr => ∃ i : Nat, i ≤ s.size ∧ s7 = .int .i64 i ∧ s6 = .int .i64 (numL (s.data.toList.take i) : Int) ∧ w2 = wr) (fun _ s7 _ => s.size - (intOf s7).toNat)
  case atStart => exact ⟨0, by omega, rfl, rfl, rfl⟩
  case round =>
    obtain ⟨i, hi, rfl, rfl, rfl⟩ := hrel
    by_cases hlt : i < s.size
    · obtain ⟨x, hx⟩ : ∃ x, s[i] = x := ⟨_, rfl⟩
      have hst := numL_take s.data.toList i (by rw [data_len]; exact hlt)
      have hgx : s.data.toList.getD i 0 = x := by
        rw [← hx]
        have := mk_get s.data.toList i hlt
        exact this.symm
      rw [hgx] at hst
      have hnb := hfit.out i hlt
      rw [hst] at hnb
      obtain ⟨n, hn⟩ : ∃ n, numL (s.data.toList.take i) = n := ⟨_, rfl⟩
      rw [hn] at hst hnb
      have hxl := x.toNat_lt
      have hor : bits .or .i64 ((n : Int) * 256) (x.toNat : Int) = ((n * 256 + x.toNat : Nat) : Int) := by
        have := i64_or_nat (n * 256) x.toNat (by omega) (by omega)
        rw [or_byte] at this
        exact_mod_cast this
      have hwx : IntKind.i64.wrap (x.toNat : Int) = (x.toNat : Int) := by rw [IntKind.wrap_i64]; omega
      replace hst := Box.mk hst
      clear hgx
      go_wp2_with fail
      exact ⟨⟨i + 1, by omega, by go_num, by rw [hst.out]; exact u_eq (by omega), trivial⟩, by simp [intOf]; omega⟩
    · obtain rfl : i = s.size := by omega
      rw [List.take_of_length_le (by rw [data_len]; exact Nat.le_refl _)]
      go_wp2_with fail
      go_returns
      exact ⟨by rw [hval.out]; rfl, hN.out⟩
set_option maxHeartbeats 3200000 in
set_option maxRecDepth 100000 in
theorem xnumber_short (b : Nat) (l : List UInt8) (e : Int) (w : World) (h : RAt w b 129 l e) (he : e = 0) (hl : l.length < 8) :
    Calls Tryz.prog 73 #[.pointer (some ⟨b, 0, none⟩), .int .i64 8] w fun r w' => r = .returned (.int .i64 (numR 8 l e).1) ∧ RNext w b 129 (numR 8 l e).2.1 (numR 8 l e).2.2 w' := by
  have hb : e = 0 → 8 ≤ l.length → numL (l.take 8) ≤ 9223372036854775807 := fun _ h => by omega
  have hrl := raw8_num l e hb
  have hll := raw8_len l e
  have hRaw := xraw_any b l e 8 w h
  obtain ⟨hv1, hv2⟩ := raw_num 8 l e hb
  change (numL (rawR 8 l e).1 : Int) = (numR 8 l e).1 at hv1
  change (rawR 8 l e).2 = (numR 8 l e).2 at hv2
  rw [hv2] at hRaw
  generalize numR 8 l e = R at hv1 hRaw ⊢
  generalize rawR 8 l e = P at hv1 hRaw hrl hll
  obtain ⟨s, hs⟩ : ∃ s, btx P.1 = s := ⟨_, rfl⟩
  have hsd : s.data.toList = P.1 := by rw [← hs]; rfl
  have hss : s.size ≤ 8 := by rw [← data_len, hsd]; exact hll
  rw [hs] at hRaw
  rw [← hsd] at hv1 hrl
  have hfit : Box (∀ i, i < s.size → numL (s.data.toList.take (i + 1)) ≤ 9223372036854775807) := ⟨fun i hi => numL_fit _ hrl i (by rw [data_len]; exact hi)⟩
  have hval := Box.mk hv1
  replace hRaw := Box.mk hRaw
  have c0 : w.cell? ⟨b, 0, none⟩ = some (.string (btx l)) := h.cell 0
  have c1 : w.cell? ⟨b, 1, none⟩ = some (.int .i64 e) := h.cell 1
  have hsz := mk_size l
  subst he
  clear hv1 hv2 hrl hll hs hsd hb
  clear h
  go_enter Tryz.func73, Tryz.ntmps73
  go_wp2_with fail
  refine hRaw.out.mono ?_
  rintro r w2 ⟨rfl, hN⟩
  replace hN := Box.mk hN
  go_wp2_with fail
  go_loopw [6, 7] (fun s6 s7 wr => ∃ i : Nat, i ≤ s.size ∧ s7 = .int .i64 i ∧ s6 = .int .i64 (numL (s.data.toList.take i) : Int) ∧ w2 = wr) (fun _ s7 _ => s.size - (intOf s7).toNat)
  case atStart => exact ⟨0, by omega, rfl, rfl, rfl⟩
  case round =>
    obtain ⟨i, hi, rfl, rfl, rfl⟩ := hrel
    by_cases hlt : i < s.size
    · obtain ⟨x, hx⟩ : ∃ x, s[i] = x := ⟨_, rfl⟩
      have hst := numL_take s.data.toList i (by rw [data_len]; exact hlt)
      have hgx : s.data.toList.getD i 0 = x := by
        rw [← hx]
        have := mk_get s.data.toList i hlt
        exact this.symm
      rw [hgx] at hst
      have hnb := hfit.out i hlt
      rw [hst] at hnb
      obtain ⟨n, hn⟩ : ∃ n, numL (s.data.toList.take i) = n := ⟨_, rfl⟩
      rw [hn] at hst hnb
      have hxl := x.toNat_lt
      have hor : bits .or .i64 ((n : Int) * 256) (x.toNat : Int) = ((n * 256 + x.toNat : Nat) : Int) := by
        have := i64_or_nat (n * 256) x.toNat (by omega) (by omega)
        rw [or_byte] at this
        exact_mod_cast this
      have hwx : IntKind.i64.wrap (x.toNat : Int) = (x.toNat : Int) := by rw [IntKind.wrap_i64]; omega
      replace hst := Box.mk hst
      clear hgx
      go_wp2_with fail
      exact ⟨⟨i + 1, by omega, by go_num, by rw [hst.out]; exact u_eq (by omega), trivial⟩, by simp [intOf]; omega⟩
    · obtain rfl : i = s.size := by omega
      rw [List.take_of_length_le (by rw [data_len]; exact Nat.le_refl _)]
      go_wp2_with fail
      go_returns
      exact ⟨by rw [hval.out]; rfl, hN.out⟩
set_option maxHeartbeats 3200000 in
set_option maxRecDepth 100000 in
theorem xnumber_fits (b : Nat) (l : List UInt8) (e : Int) (w : World) (h : RAt w b 129 l e) (he : e = 0) (hl : 8 ≤ l.length) (ht : (l.getD 0 0).toNat < 128) :
    Calls Tryz.prog 73 #[.pointer (some ⟨b, 0, none⟩), .int .i64 8] w fun r w' => r = .returned (.int .i64 (numR 8 l e).1) ∧ RNext w b 129 (numR 8 l e).2.1 (numR 8 l e).2.2 w' := by
  have hb : e = 0 → 8 ≤ l.length → numL (l.take 8) ≤ 9223372036854775807 := fun _ _ => by
    refine (numL_top (l.take 8) (by rw [List.length_take]; omega)).1 ?_
    rw [List.getD, List.getElem?_take_of_lt (by omega)]; exact ht
  have hrl := raw8_num l e hb
  have hll := raw8_len l e
  have hRaw := xraw_any b l e 8 w h
  obtain ⟨hv1, hv2⟩ := raw_num 8 l e hb
  change (numL (rawR 8 l e).1 : Int) = (numR 8 l e).1 at hv1
  change (rawR 8 l e).2 = (numR 8 l e).2 at hv2
  rw [hv2] at hRaw
  generalize numR 8 l e = R at hv1 hRaw ⊢
  generalize rawR 8 l e = P at hv1 hRaw hrl hll
  obtain ⟨s, hs⟩ : ∃ s, btx P.1 = s := ⟨_, rfl⟩
  have hsd : s.data.toList = P.1 := by rw [← hs]; rfl
  have hss : s.size ≤ 8 := by rw [← data_len, hsd]; exact hll
  rw [hs] at hRaw
  rw [← hsd] at hv1 hrl
  have hfit : Box (∀ i, i < s.size → numL (s.data.toList.take (i + 1)) ≤ 9223372036854775807) := ⟨fun i hi => numL_fit _ hrl i (by rw [data_len]; exact hi)⟩
  have hval := Box.mk hv1
  replace hRaw := Box.mk hRaw
  have c0 : w.cell? ⟨b, 0, none⟩ = some (.string (btx l)) := h.cell 0
  have c1 : w.cell? ⟨b, 1, none⟩ = some (.int .i64 e) := h.cell 1
  have hsz := mk_size l
  subst he
  have hz : 0 < (btx l).size := by rw [hsz]; omega
  have hg : ∀ h : 0 < (btx l).size, (btx l)[0]'h = l.getD 0 0 := fun h => mk_get l 0 h
  obtain ⟨x0, hx0⟩ : ∃ x, l.getD 0 0 = x := ⟨_, rfl⟩
  rw [hx0] at ht
  simp only [hx0] at hg
  have hge : ¬ (128 : Int) ≤ (x0.toNat : Int) := by omega
  clear hv1 hv2 hrl hll hs hsd hb hx0
  clear h
  go_enter Tryz.func73, Tryz.ntmps73
  go_wp2_with fail
  refine hRaw.out.mono ?_
  rintro r w2 ⟨rfl, hN⟩
  replace hN := Box.mk hN
  go_wp2_with fail
  go_loopw [6, 7] (fun s6 s7 wr => ∃ i : Nat, i ≤ s.size ∧ s7 = .int .i64 i ∧ s6 = .int .i64 (numL (s.data.toList.take i) : Int) ∧ w2 = wr) (fun _ s7 _ => s.size - (intOf s7).toNat)
  case atStart => exact ⟨0, by omega, rfl, rfl, rfl⟩
  case round =>
    obtain ⟨i, hi, rfl, rfl, rfl⟩ := hrel
    by_cases hlt : i < s.size
    · obtain ⟨x, hx⟩ : ∃ x, s[i] = x := ⟨_, rfl⟩
      have hst := numL_take s.data.toList i (by rw [data_len]; exact hlt)
      have hgx : s.data.toList.getD i 0 = x := by
        rw [← hx]
        have := mk_get s.data.toList i hlt
        exact this.symm
      rw [hgx] at hst
      have hnb := hfit.out i hlt
      rw [hst] at hnb
      obtain ⟨n, hn⟩ : ∃ n, numL (s.data.toList.take i) = n := ⟨_, rfl⟩
      rw [hn] at hst hnb
      have hxl := x.toNat_lt
      have hor : bits .or .i64 ((n : Int) * 256) (x.toNat : Int) = ((n * 256 + x.toNat : Nat) : Int) := by
        have := i64_or_nat (n * 256) x.toNat (by omega) (by omega)
        rw [or_byte] at this
        exact_mod_cast this
      have hwx : IntKind.i64.wrap (x.toNat : Int) = (x.toNat : Int) := by rw [IntKind.wrap_i64]; omega
      replace hst := Box.mk hst
      clear hgx
      go_wp2_with fail
      exact ⟨⟨i + 1, by omega, by go_num, by rw [hst.out]; exact u_eq (by omega), trivial⟩, by simp [intOf]; omega⟩
    · obtain rfl : i = s.size := by omega
      rw [List.take_of_length_le (by rw [data_len]; exact Nat.le_refl _)]
      go_wp2_with fail
      go_returns
      exact ⟨by rw [hval.out]; rfl, hN.out⟩
set_option maxHeartbeats 3200000 in
set_option maxRecDepth 100000 in
theorem xnumber_great (b : Nat) (l : List UInt8) (e : Int) (w : World) (h : RAt w b 129 l e) (he : e = 0) (hl : 8 ≤ l.length) (ht : ¬ (l.getD 0 0).toNat < 128) :
    Calls Tryz.prog 73 #[.pointer (some ⟨b, 0, none⟩), .int .i64 8] w fun r w' => r = .returned (.int .i64 (numR 8 l e).1) ∧ RNext w b 129 (numR 8 l e).2.1 (numR 8 l e).2.2 w' := by
  have hR : numR 8 l e = (0, l, 3) := by
    have h1 : ¬ numL (l.take 8) ≤ 9223372036854775807 := fun h2 => ht (by
      have := (numL_top (l.take 8) (by rw [List.length_take]; omega)).2 h2
      rw [List.getD, List.getElem?_take_of_lt (by omega)] at this; exact this)
    subst he
    simp [numR, show ¬ l.length < 8 by omega, show 9223372036854775807 < numL (l.take 8) by omega]
  rw [hR]
  clear hR
  subst he
  have hF := xfail_any b l 0 3 w h
  have c0 : w.cell? ⟨b, 0, none⟩ = some (.string (btx l)) := h.cell 0
  have c1 : w.cell? ⟨b, 1, none⟩ = some (.int .i64 0) := h.cell 1
  have hsz := mk_size l
  have hz : 0 < (btx l).size := by rw [hsz]; omega
  have hg : ∀ h : 0 < (btx l).size, (btx l)[0]'h = l.getD 0 0 := fun h => mk_get l 0 h
  obtain ⟨x0, hx0⟩ : ∃ x, l.getD 0 0 = x := ⟨_, rfl⟩
  rw [hx0] at ht
  simp only [hx0] at hg
  have hge : (128 : Int) ≤ (x0.toNat : Int) := by omega
  clear hx0
  replace hF := Box.mk hF
  clear h
  go_enter Tryz.func73, Tryz.ntmps73
  go_wp2_with fail
  refine hF.out.mono ?_
  rintro r w1 ⟨rfl, hN1⟩
  have hRaw := xraw_any b l 3 8 w1 hN1.at_
  rw [show rawR 8 l 3 = ([], l, 3) by simp [rawR]] at hRaw
  replace hRaw := Box.mk hRaw
  replace hN1 := Box.mk hN1
  have he0 := mk_size []
  go_wp2_with fail
  refine hRaw.out.mono ?_
  rintro r w2 ⟨rfl, hN⟩
  replace hN := Box.mk hN
  go_wp2_with fail
  go_loopw [6, 7] (fun s6 s7 wr => s7 = .int .i64 0 ∧ s6 = .int .i64 0 ∧ w2 = wr) (fun _ _ _ => 0)
  case atStart => exact ⟨rfl, rfl, rfl⟩
  case round =>
    obtain ⟨rfl, rfl, rfl⟩ := hrel
    go_wp2_with fail
    go_returns
    exact ⟨rfl, hN1.out.trans hN.out⟩
end Go.Proofs.YtoaipjpbioaneaaGreat

namespace Go.Proofs.YtoaipjpbioaneaaGreat
open Go.RowKit

theorem xnumber_any (b : Nat) (l : List UInt8) (e : Int) (k : Nat) (w : World) (h : RAt w b 129 l e) (hk : k ≤ 8) :
    Calls Tryz.prog 73 #[.pointer (some ⟨b, 0, none⟩), .int .i64 (k : Int)] w fun r w' => r = .returned (.int .i64 (numR k l e).1) ∧ RNext w b 129 (numR k l e).2.1 (numR k l e).2.2 w' := by
  rcases Nat.lt_or_ge k 8 with h8 | h8
  · exact xnumber_low b l e k w h (by omega)
  · obtain rfl : k = 8 := by omega
    by_cases he : e = 0
    · by_cases hl : l.length < 8
      · exact xnumber_short b l e w h he hl
      · by_cases ht : (l.getD 0 0).toNat < 128
        · exact xnumber_fits b l e w h he (by omega) ht
        · exact xnumber_great b l e w h he (by omega) ht
    · exact xnumber_err b l e w h he
theorem numR_two (l : List UInt8) (h : ¬ l.length < 2) : numR 2 l 0 = ((numL (l.take 2) : Int), l.drop 2, 0) ∧ numL (l.take 2) ≤ 65535 := by
  have hb := numL_lt 2 (l.take 2) (by rw [List.length_take]; omega)
  have h2 : (256 : Nat) ^ 2 = 65536 := by decide
  refine ⟨?_, by omega⟩
  simp [numR, h, show ¬ 9223372036854775807 < numL (l.take 2) by omega]
set_option maxHeartbeats 1600000 in
set_option maxRecDepth 100000 in
theorem xtext_any (b : Nat) (l : List UInt8) (e most : Int) (w : World) (h : RAt w b 129 l e) :
    Calls Tryz.prog 97 #[.pointer (some ⟨b, 0, none⟩), .int .i64 most] w fun r w' => r = .returned (.string (btx (textR most l e).1)) ∧ RNext w b 129 (textR most l e).2.1 (textR most l e).2.2 w' := by
  have c0 : w.cell? ⟨b, 0, none⟩ = some (.string (btx l)) := h.cell 0
  have hNum := xnumber_any b l e 2 w h (by omega)
  by_cases he : e = 0
  · subst he
    by_cases hlt : l.length < 2
    · have hR : textR most l 0 = ([], l, 2) := by simp [textR, hlt]
      have hN2 : numR 2 l 0 = (0, l, 2) := by simp [numR, hlt]
      rw [hR]
      rw [hN2] at hNum
      replace hNum := Box.mk hNum
      clear hR hN2
      go_enter Tryz.func97, Tryz.ntmps97
      go_wp2_with fail
      refine hNum.out.mono ?_
      rintro r w1 ⟨rfl, hN⟩
      have c1 : w1.cell? ⟨b, 1, none⟩ = some (.int .i64 2) := hN.at_.cell 1
      replace hN := Box.mk hN
      go_wp2_with fail
      go_returns
      exact ⟨rfl, hN.out⟩
    · obtain ⟨hN2, hb⟩ := numR_two l hlt
      rw [hN2] at hNum
      obtain ⟨n, hn⟩ : ∃ n, numL (l.take 2) = n := ⟨_, rfl⟩
      rw [hn] at hNum hb
      obtain ⟨M, hM⟩ : ∃ M, (if most < 0 then 0 else most) = M := ⟨_, rfl⟩
      replace hNum := Box.mk hNum
      clear hN2
      by_cases hbig : M < n
      · have hR : textR most l 0 = ([], l, 4) := by simp [textR, hlt, hn, hM, hbig]
        rw [hR]
        clear hR hn
        go_enter Tryz.func97, Tryz.ntmps97
        go_wp2_with fail
        refine hNum.out.mono ?_
        rintro r w1 ⟨rfl, hN⟩
        have c1 : w1.cell? ⟨b, 1, none⟩ = some (.int .i64 0) := hN.at_.cell 1
        have hF := xfail_any b (l.drop 2) 0 4 w1 hN.at_
        replace hF := Box.mk hF
        replace hN := Box.mk hN
        go_wp2_with fail
        refine hF.out.mono ?_
        rintro r w2 ⟨rfl, hN2⟩
        have hX := xraw_any b (l.drop 2) 4 n w2 hN2.at_
        rw [show rawR n (l.drop 2) 4 = ([], l.drop 2, 4) by simp [rawR]] at hX
        replace hX := Box.mk hX
        replace hN2 := Box.mk hN2
        go_wp2_with fail
        refine hX.out.mono ?_
        rintro r w3 ⟨rfl, hN3⟩
        have c3 : w3.cell? ⟨b, 1, none⟩ = some (.int .i64 4) := hN3.at_.cell 1
        have k3 : (w3.cell? ⟨b, 0, none⟩) = some (.string (btx (l.drop 2))) := hN3.at_.cell 0
        have f3 := hN3.at_.free 0
        replace hN3 := Box.mk hN3
        go_wp2_with fail
        go_returns
        exact ⟨rfl, (hN.out.trans (hN2.out.trans hN3.out)).left l⟩
      · by_cases hsh : l.length < 2 + n
        · have hR : textR most l 0 = ([], l, 2) := by simp [textR, hlt, hn, hM, hbig, hsh]
          rw [hR]
          clear hR hn
          go_enter Tryz.func97, Tryz.ntmps97
          go_wp2_with fail
          refine hNum.out.mono ?_
          rintro r w1 ⟨rfl, hN⟩
          have c1 : w1.cell? ⟨b, 1, none⟩ = some (.int .i64 0) := hN.at_.cell 1
          have hX := xraw_any b (l.drop 2) 0 n w1 hN.at_
          rw [show rawR n (l.drop 2) 0 = ([], l.drop 2, 2) by rw [rawR, if_neg (by decide), if_neg (by omega), if_pos (by rw [List.length_drop]; omega)]] at hX
          replace hX := Box.mk hX
          replace hN := Box.mk hN
          go_wp2_with fail
          refine hX.out.mono ?_
          rintro r w3 ⟨rfl, hN3⟩
          have c3 : w3.cell? ⟨b, 1, none⟩ = some (.int .i64 2) := hN3.at_.cell 1
          have k3 : (w3.cell? ⟨b, 0, none⟩) = some (.string (btx (l.drop 2))) := hN3.at_.cell 0
          have f3 := hN3.at_.free 0
          replace hN3 := Box.mk hN3
          go_wp2_with fail
          go_returns
          exact ⟨rfl, (hN.out.trans hN3.out).left l⟩
        · have hR : textR most l 0 = ((l.take (2 + n)).drop 2, l.drop (2 + n), 0) := by simp [textR, hlt, hn, hM, hbig, hsh]
          rw [hR]
          clear hR hn
          go_enter Tryz.func97, Tryz.ntmps97
          go_wp2_with fail
          refine hNum.out.mono ?_
          rintro r w1 ⟨rfl, hN⟩
          have c1 : w1.cell? ⟨b, 1, none⟩ = some (.int .i64 0) := hN.at_.cell 1
          have hX := xraw_any b (l.drop 2) 0 n w1 hN.at_
          rw [show rawR n (l.drop 2) 0 = ((l.take (2 + n)).drop 2, l.drop (2 + n), 0) by
            rw [rawR, if_neg (by decide), if_neg (by omega), if_neg (by rw [List.length_drop]; omega), List.drop_drop, List.drop_take]; simp] at hX
          replace hX := Box.mk hX
          replace hN := Box.mk hN
          go_wp2_with fail
          refine hX.out.mono ?_
          rintro r w3 ⟨rfl, hN3⟩
          have c3 : w3.cell? ⟨b, 1, none⟩ = some (.int .i64 0) := hN3.at_.cell 1
          replace hN3 := Box.mk hN3
          go_wp2_with fail
          go_returns
          exact ⟨rfl, hN.out.trans hN3.out⟩
  · have hR : textR most l e = ([], l, e) := by simp [textR, he]
    have hN2 : numR 2 l e = (0, l, e) := by simp [numR, he]
    have hf : (e == 0) = false := by simpa using he
    rw [hR]
    rw [hN2] at hNum
    replace hNum := Box.mk hNum
    clear hR hN2
    go_enter Tryz.func97, Tryz.ntmps97
    go_wp2_with fail
    refine hNum.out.mono ?_
    rintro r w1 ⟨rfl, hN⟩
    have c1 : w1.cell? ⟨b, 1, none⟩ = some (.int .i64 e) := hN.at_.cell 1
    replace hN := Box.mk hN
    go_wp2_with fail
    go_returns
    exact ⟨rfl, hN.out⟩
set_option maxHeartbeats 400000 in
theorem read_new (s : ByteArray) (w : World) :
    Calls Tryz.prog 66 #[.string s] w fun e w' => e = .returned (.pointer (some ⟨w.heap.size, 0, none⟩)) ∧ RAt w' w.heap.size 153 s.data.toList 0 ∧ Below w.heap.size w w' := by
  go_enter Tryz.func66, Tryz.ntmps66
  go_wp2
  go_returns
  exact ⟨rfl, Blk.new w [.string s, .int .i64 0] _, (Below.refl _ _).alloc (Nat.le_refl _) _⟩
set_option maxHeartbeats 400000 in
theorem xread_new (s : ByteArray) (w : World) :
    Calls Tryz.prog 72 #[.string s] w fun e w' => e = .returned (.pointer (some ⟨w.heap.size, 0, none⟩)) ∧ RAt w' w.heap.size 129 s.data.toList 0 ∧ Below w.heap.size w w' := by
  go_enter Tryz.func72, Tryz.ntmps72
  go_wp2
  go_returns
  exact ⟨rfl, Blk.new w [.string s, .int .i64 0] _, (Below.refl _ _).alloc (Nat.le_refl _) _⟩
end Go.Proofs.YtoaipjpbioaneaaGreat
