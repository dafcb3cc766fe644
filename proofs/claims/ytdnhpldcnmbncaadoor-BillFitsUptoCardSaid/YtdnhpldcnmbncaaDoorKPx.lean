/- PkG PkH PkI PkJ PkV PkW, in one text, in a namespace of their own. -/
import Derived.Test.YtdnhpldcnmbncaaDoorKPk
import Derived.Test.YtdnhpldcnmbncaaDoorQg
/- Walks of the document's reader, against the same model. -/
namespace Go.Proofs.YtdnhpldcnmbncaaDoor.Pk
open Go.RowKit

theorem ofInt_i64' (a : Nat) (ha : a < 18446744073709551616) : (BitVec.ofInt 64 (a : Int)).toNat = a := by
  rw [BitVec.toNat_ofInt]; omega
theorem i64_or_nat (a b : Nat) (ha : a < 9223372036854775808) (hb : b < 9223372036854775808) : bits .or .i64 (a : Int) (b : Int) = ((a ||| b : Nat) : Int) := by
  have hx : a ||| b < 2 ^ 63 := Nat.or_lt_two_pow (by omega) (by omega)
  show IntKind.i64.wrap ((BitVec.ofInt 64 (a : Int) ||| BitVec.ofInt 64 (b : Int)).toNat : Int) = _
  rw [BitVec.toNat_or, ofInt_i64' a (by omega), ofInt_i64' b (by omega), IntKind.wrap_i64]
  omega

set_option maxHeartbeats 400000 in
theorem xfail_any (b : Nat) (l : List UInt8) (e e' : Int) (w : World) (h : RAt w b 71 l e) :
    Calls Tryd.prog 75 #[.pointer (some ⟨b, 0, none⟩), .int .i64 e'] w fun r w' => r = .returned (.tuple #[]) ∧ RNext w b 71 l (failE e e') w' := by
  have c1 : w.cell? ⟨b, 1, none⟩ = some (.int .i64 e) := h.cell 1
  have f1 := h.free 1
  replace h := Box.mk h
  by_cases h0 : e = 0
  · subst h0
    go_enter Tryd.func75, Tryd.ntmps75
    go_wp2
    go_returns
    exact ⟨rfl, (RNext.same h.out).err e'⟩
  · have h1 : (e == 0) = false := by simpa using h0
    go_enter Tryd.func75, Tryd.ntmps75
    go_wp2
    go_returns
    refine ⟨rfl, ?_⟩
    rw [failE, if_neg h0]
    exact RNext.same h.out
set_option maxHeartbeats 400000 in
theorem xend_any (b : Nat) (l : List UInt8) (e : Int) (w : World) (h : RAt w b 71 l e) :
    Calls Tryd.prog 52 #[.pointer (some ⟨b, 0, none⟩)] w fun r w' => r = .returned (.int .i64 (endE l e)) ∧ RNext w b 71 l (endE l e) w' := by
  have c0 : w.cell? ⟨b, 0, none⟩ = some (.string (btx l)) := h.cell 0
  have c1 : w.cell? ⟨b, 1, none⟩ = some (.int .i64 e) := h.cell 1
  have hs := mk_size l
  have h2 := xfail_any b l e 3 w h
  replace h := Box.mk h
  by_cases hlt : 0 < l.length
  · rw [endE, if_pos hlt]
    replace h2 := Box.mk h2
    go_enter Tryd.func52, Tryd.ntmps52
    go_wp2_with fail
    refine h2.out.mono ?_
    rintro r w' ⟨rfl, hR⟩
    have c2 : w'.cell? ⟨b, 1, none⟩ = some (.int .i64 (failE e 3)) := hR.at_.cell 1
    replace hR := Box.mk hR
    go_wp2_with fail
    go_returns
    exact ⟨rfl, hR.out⟩
  · rw [endE, if_neg hlt]
    go_enter Tryd.func52, Tryd.ntmps52
    go_wp2_with fail
    go_returns
    exact ⟨rfl, RNext.same h.out⟩
set_option maxHeartbeats 800000 in
set_option maxRecDepth 100000 in
theorem xraw_any (b : Nat) (l : List UInt8) (e n : Int) (w : World) (h : RAt w b 71 l e) :
    Calls Tryd.prog 51 #[.pointer (some ⟨b, 0, none⟩), .int .i64 n] w fun r w' => r = .returned (.string (btx (rawR n l e).1)) ∧ RNext w b 71 (rawR n l e).2.1 (rawR n l e).2.2 w' := by
  have c0 : w.cell? ⟨b, 0, none⟩ = some (.string (btx l)) := h.cell 0
  have c1 : w.cell? ⟨b, 1, none⟩ = some (.int .i64 e) := h.cell 1
  have f0 := h.free 0
  have hs := mk_size l
  have hf1 := xfail_any b l e 1 w h
  have hf2 := xfail_any b l e 2 w h
  replace h := Box.mk h
  replace hf1 := Box.mk hf1
  replace hf2 := Box.mk hf2
  by_cases he : e = 0
  · subst he
    by_cases hn : n < 0
    · have hR : rawR n l 0 = ([], l, 1) := by simp [rawR, hn]
      rw [hR]
      clear hR
      go_enter Tryd.func51, Tryd.ntmps51
      go_wp2_with fail
      refine hf1.out.mono ?_
      rintro r w' ⟨rfl, hN⟩
      replace hN := Box.mk hN
      go_wp2_with fail
      go_returns
      exact ⟨rfl, hN.out⟩
    · obtain ⟨m, rfl⟩ : ∃ m : Nat, n = m := ⟨n.toNat, by omega⟩
      by_cases hlt : (l.length : Int) < m
      · have hR : rawR m l 0 = ([], l, 2) := by simp [rawR, hn, show l.length < m by omega]
        rw [hR]
        clear hR
        go_enter Tryd.func51, Tryd.ntmps51
        go_wp2_with fail
        refine hf2.out.mono ?_
        rintro r w' ⟨rfl, hN⟩
        replace hN := Box.mk hN
        go_wp2_with fail
        go_returns
        exact ⟨rfl, hN.out⟩
      · have hR : rawR m l 0 = (l.take m, l.drop m, 0) := by simp [rawR, hn, show ¬ l.length < m by omega]
        rw [hR]
        clear hR
        have x1 : (btx l).extract 0 m = btx (l.take m) := by rw [mk_cut]; rfl
        have x2 : (btx l).extract m l.length = btx (l.drop m) := by rw [mk_cut, List.take_of_length_le (Nat.le_refl _)]
        go_enter Tryd.func51, Tryd.ntmps51
        go_wp2_with fail
        go_returns
        exact ⟨rfl, (RNext.same h.out).left _⟩
  · have hR : rawR n l e = ([], l, e) := by simp [rawR, he]
    have hf : (e == 0) = false := by simpa using he
    rw [hR]
    clear hR
    go_enter Tryd.func51, Tryd.ntmps51
    go_wp2_with fail
    go_returns
    exact ⟨rfl, RNext.same h.out⟩
/-- The answer of a raw reading of k bytes, as a number, is that of a number of k bytes, where the first byte isn't too great. -/
theorem raw_num (k : Nat) (l : List UInt8) (e : Int) (h : e = 0 → k ≤ l.length → numL (l.take k) ≤ 9223372036854775807) :
    ((numL (rawR k l e).1 : Int) = (numR k l e).1) ∧ (rawR k l e).2 = (numR k l e).2 := by
  by_cases he : e = 0
  · subst he
    by_cases hlt : l.length < k
    · simp [rawR, numR, hlt, numL, show ¬ ((k : Int) < 0) by omega]
    · have h1 := h rfl (by omega)
      simp [rawR, numR, hlt, show ¬ ((k : Int) < 0) by omega, show ¬ 9223372036854775807 < numL (l.take k) by omega]
  · simp [rawR, numR, he, numL]
theorem numL_mono (l : List UInt8) : ∀ i, i ≤ l.length → ∀ j, i + j ≤ l.length → numL (l.take i) ≤ numL (l.take (i + j))
  | i, hi, 0, _ => Nat.le_refl _
  | i, hi, j + 1, hj => by
    have h1 := numL_mono l i hi j (by omega)
    have h2 := numL_take l (i + j) (by omega)
    rw [show i + (j + 1) = i + j + 1 by omega, h2]; omega
theorem numL_fit (l : List UInt8) (h : numL l ≤ 9223372036854775807) (i : Nat) (hi : i < l.length) : numL (l.take (i + 1)) ≤ 9223372036854775807 := by
  have h1 := numL_mono l (i + 1) (by omega) (l.length - (i + 1)) (by omega)
  rw [show i + 1 + (l.length - (i + 1)) = l.length by omega, List.take_length] at h1
  omega
theorem numL_top (l : List UInt8) (h : l.length = 8) : (l.getD 0 0).toNat < 128 ↔ numL l ≤ 9223372036854775807 := by
  match l, h with
  | [a0, a1, a2, a3, a4, a5, a6, a7], _ =>
    have h0 := a0.toNat_lt; have h1 := a1.toNat_lt; have h2 := a2.toNat_lt; have h3 := a3.toNat_lt
    have h4 := a4.toNat_lt; have h5 := a5.toNat_lt; have h6 := a6.toNat_lt; have h7 := a7.toNat_lt
    simp [numL]
    omega
end Go.Proofs.YtdnhpldcnmbncaaDoor.Pk


/- Walks of the document's reader: numbers. -/
namespace Go.Proofs.YtdnhpldcnmbncaaDoor.Pk
open Go.RowKit

set_option maxHeartbeats 3200000 in
set_option maxRecDepth 100000 in
theorem xnumber_low (b : Nat) (l : List UInt8) (e : Int) (k : Nat) (w : World) (h : RAt w b 71 l e) (hk : k ≤ 7) :
    Calls Tryd.prog 50 #[.pointer (some ⟨b, 0, none⟩), .int .i64 (k : Int)] w fun r w' => r = .returned (.int .i64 (numR k l e).1) ∧ RNext w b 71 (numR k l e).2.1 (numR k l e).2.2 w' := by
  have hRaw := xraw_any b l e k w h
  have hb : ∀ q : List UInt8, q.length ≤ k → numL q ≤ 9223372036854775807 := fun q hq => by
    have h1 := numL_lt q.length q rfl
    have h2 : 256 ^ q.length ≤ 256 ^ 7 := Nat.pow_le_pow_right (by omega) (by omega)
    have : (256 : Nat) ^ 7 = 72057594037927936 := by decide
    omega
  obtain ⟨hv1, hv2⟩ := raw_num k l e (fun _ _ => hb _ (by rw [List.length_take]; omega))
  have hrl : (rawR k l e).1.length ≤ k := by
    unfold rawR; split
    · simp
    · split
      · simp
      · split
        · simp
        · simp only [Int.toNat_natCast, List.length_take]; omega
  have hf := hb _ hrl
  rw [hv2] at hRaw
  generalize numR k l e = R at hv1 hRaw ⊢
  generalize rawR k l e = P at hv1 hRaw hf hrl
  obtain ⟨s, hs⟩ : ∃ s, btx P.1 = s := ⟨_, rfl⟩
  have hsd : s.data.toList = P.1 := by rw [← hs]; rfl
  have hss : s.size ≤ 8 := by rw [← data_len, hsd]; omega
  rw [hs] at hRaw
  rw [← hsd] at hv1 hf
  have hfit : Box (∀ i, i < s.size → numL (s.data.toList.take (i + 1)) ≤ 9223372036854775807) := ⟨fun i hi => numL_fit _ hf i (by rw [data_len]; exact hi)⟩
  have hval := Box.mk hv1
  replace hRaw := Box.mk hRaw
  have hk8 : ((k : Int) == 8) = false := by simp; omega
  clear h hb hv1 hv2 hrl hf hs hsd
  go_enter Tryd.func50, Tryd.ntmps50
  go_wp2_with fail
  refine hRaw.out.mono ?_
  rintro r w2 ⟨rfl, hN⟩
  replace hN := Box.mk hN
  go_wp2_with fail
  go_loopw [6, 7] (fun s6 s7 wr => ∃ i : Nat, i ≤ s.size ∧ s7 = .int .i64 i ∧ s6 = .int .i64 (numL (s.data.toList.take i) : Int) ∧ w2 = wr) (fun _ s7 _ => s.size - (intOf s7).toNat)
  case atStart => exact ⟨0, by omega, rfl, rfl, rfl⟩
  case round =>
    obtain ⟨i, hi, rfl, rfl, rfl⟩ := hrel
    by_cases hlt : i < s.size
    · obtain ⟨x, hx⟩ : ∃ x, s[i] = x := ⟨_, rfl⟩
      have hst := numL_take s.data.toList i (by rw [data_len]; exact hlt)
      have hgx : s.data.toList.getD i 0 = x := by
        rw [← hx]
        have := mk_get s.data.toList i hlt
        exact this.symm
      rw [hgx] at hst
      have hnb := hfit.out i hlt
      rw [hst] at hnb
      obtain ⟨n, hn⟩ : ∃ n, numL (s.data.toList.take i) = n := ⟨_, rfl⟩
      rw [hn] at hst hnb
      have hxl := x.toNat_lt
      have hor : bits .or .i64 ((n : Int) * 256) (x.toNat : Int) = ((n * 256 + x.toNat : Nat) : Int) := by
        have := i64_or_nat (n * 256) x.toNat (by omega) (by omega)
        rw [or_byte] at this
        exact_mod_cast this
      have hwx : IntKind.i64.wrap (x.toNat : Int) = (x.toNat : Int) := by rw [IntKind.wrap_i64]; omega
      replace hst := Box.mk hst
      clear hgx
      go_wp2_with fail
      exact ⟨⟨i + 1, by omega, by go_num, by rw [hst.out]; exact u_eq (by omega), trivial⟩, by simp [intOf]; omega⟩
    · obtain rfl : i = s.size := by omega
      rw [List.take_of_length_le (by rw [data_len]; exact Nat.le_refl _)]
      go_wp2_with fail
      go_returns
      exact ⟨by rw [hval.out]; rfl, hN.out⟩
end Go.Proofs.YtdnhpldcnmbncaaDoor.Pk


/- Walks of the document's reader: numbers. -/
namespace Go.Proofs.YtdnhpldcnmbncaaDoor.Pk
open Go.RowKit

theorem raw8_len (l : List UInt8) (e : Int) : (rawR 8 l e).1.length ≤ 8 := by
  by_cases he : e = 0
  · by_cases hl : (l.length : Int) < 8
    · simp [rawR, he, hl]
    · simp [rawR, he, hl]; omega
  · simp [rawR, he]
theorem raw8_num (l : List UInt8) (e : Int) (hb : e = 0 → 8 ≤ l.length → numL (l.take 8) ≤ 9223372036854775807) : numL (rawR 8 l e).1 ≤ 9223372036854775807 := by
  by_cases he : e = 0
  · by_cases hl : (l.length : Int) < 8
    · simp [rawR, he, hl, numL]
    · have := hb he (by omega)
      simpa [rawR, he, hl] using this
  · simp [rawR, he, numL]
set_option maxHeartbeats 3200000 in
set_option maxRecDepth 100000 in
theorem xnumber_err (b : Nat) (l : List UInt8) (e : Int) (w : World) (h : RAt w b 71 l e) (he : e ≠ 0) :
    Calls Tryd.prog 50 #[.pointer (some ⟨b, 0, none⟩), .int .i64 8] w fun r w' => r = .returned (.int .i64 (numR 8 l e).1) ∧ RNext w b 71 (numR 8 l e).2.1 (numR 8 l e).2.2 w' := by
  have hb : e = 0 → 8 ≤ l.length → numL (l.take 8) ≤ 9223372036854775807 := fun h _ => absurd h he
  have hrl := raw8_num l e hb
  have hll := raw8_len l e
  have hRaw := xraw_any b l e 8 w h
  obtain ⟨hv1, hv2⟩ := raw_num 8 l e hb
  change (numL (rawR 8 l e).1 : Int) = (numR 8 l e).1 at hv1
  change (rawR 8 l e).2 = (numR 8 l e).2 at hv2
  rw [hv2] at hRaw
  generalize numR 8 l e = R at hv1 hRaw ⊢
  generalize rawR 8 l e = P at hv1 hRaw hrl hll
  obtain ⟨s, hs⟩ : ∃ s, btx P.1 = s := ⟨_, rfl⟩
  have hsd : s.data.toList = P.1 := by rw [← hs]; rfl
  have hss : s.size ≤ 8 := by rw [← data_len, hsd]; exact hll
  rw [hs] at hRaw
  rw [← hsd] at hv1 hrl
  have hfit : Box (∀ i, i < s.size → numL (s.data.toList.take (i + 1)) ≤ 9223372036854775807) := ⟨fun i hi => numL_fit _ hrl i (by rw [data_len]; exact hi)⟩
  have hval := Box.mk hv1
  replace hRaw := Box.mk hRaw
  have c0 : w.cell? ⟨b, 0, none⟩ = some (.string (btx l)) := h.cell 0
  have c1 : w.cell? ⟨b, 1, none⟩ = some (.int .i64 e) := h.cell 1
  have hsz := mk_size l
  have hf0 : (e == 0) = false := by simpa using he
  clear hv1 hv2 hrl hll hs hsd hb
  clear h
  go_enter Tryd.func50, Tryd.ntmps50
  go_wp2_with fail
  refine hRaw.out.mono ?_
  rintro r w2 ⟨rfl, hN⟩
  replace hN := Box.mk hN
  go_wp2_with fail
  go_loopw [6, 7] (fun s6 s7 wr => ∃ i : Nat, i ≤ s.size ∧ s7 = .int .i64 i ∧ s6 = .int .i64 (numL (s.data.toList.take i) : Int) ∧ w2 = wr) (fun _ s7 _ => s.size - (intOf s7).toNat)
  case atStart => exact ⟨0, by omega, rfl, rfl, rfl⟩
  case round =>
    obtain ⟨i, hi, rfl, rfl, rfl⟩ := hrel
    by_cases hlt : i < s.size
    · obtain ⟨x, hx⟩ : ∃ x, s[i] = x := ⟨_, rfl⟩
      have hst := numL_take s.data.toList i (by rw [data_len]; exact hlt)
      have hgx : s.data.toList.getD i 0 = x := by
        rw [← hx]
        have := mk_get s.data.toList i hlt
        exact this.symm
      rw [hgx] at hst
      have hnb := hfit.out i hlt
      rw [hst] at hnb
      obtain ⟨n, hn⟩ : ∃ n, numL (s.data.toList.take i) = n := ⟨_, rfl⟩
      rw [hn] at hst hnb
      have hxl := x.toNat_lt
      have hor : bits .or .i64 ((n : Int) * 256) (x.toNat : Int) = ((n * 256 + x.toNat : Nat) : Int) := by
        have := i64_or_nat (n * 256) x.toNat (by omega) (by omega)
        rw [or_byte] at this
        exact_mod_cast this
      have hwx : IntKind.i64.wrap (x.toNat : Int) = (x.toNat : Int) := by rw [IntKind.wrap_i64]; omega
      replace hst := Box.mk hst
      clear hgx
      go_wp2_with fail
      exact ⟨⟨i + 1, by omega, by go_num, by rw [hst.out]; exact u_eq (by omega), trivial⟩, by simp [intOf]; omega⟩
    · obtain rfl : i = s.size := by omega
      rw [List.take_of_length_le (by rw [data_len]; exact Nat.le_refl _)]
      go_wp2_with fail
      go_returns
      exact ⟨by rw [hval.out]; rfl, hN.out⟩
set_option maxHeartbeats 3200000 in
set_option maxRecDepth 100000 in
theorem xnumber_short (b : Nat) (l : List UInt8) (e : Int) (w : World) (h : RAt w b 71 l e) (he : e = 0) (hl : l.length < 8) :
    Calls Tryd.prog 50 #[.pointer (some ⟨b, 0, none⟩), .int .i64 8] w fun r w' => r = .returned (.int .i64 (numR 8 l e).1) ∧ RNext w b 71 (numR 8 l e).2.1 (numR 8 l e).2.2 w' := by
  have hb : e = 0 → 8 ≤ l.length → numL (l.take 8) ≤ 9223372036854775807 := fun _ h => by omega
  have hrl := raw8_num l e hb
  have hll := raw8_len l e
  have hRaw := xraw_any b l e 8 w h
  obtain ⟨hv1, hv2⟩ := raw_num 8 l e hb
  change (numL (rawR 8 l e).1 : Int) = (numR 8 l e).1 at hv1
  change (rawR 8 l e).2 = (numR 8 l e).2 at hv2
  rw [hv2] at hRaw
  generalize numR 8 l e = R at hv1 hRaw ⊢
  generalize rawR 8 l e = P at hv1 hRaw hrl hll
  obtain ⟨s, hs⟩ : ∃ s, btx P.1 = s := ⟨_, rfl⟩
  have hsd : s.data.toList = P.1 := by rw [← hs]; rfl
  have hss : s.size ≤ 8 := by rw [← data_len, hsd]; exact hll
  rw [hs] at hRaw
  rw [← hsd] at hv1 hrl
  have hfit : Box (∀ i, i < s.size → numL (s.data.toList.take (i + 1)) ≤ 9223372036854775807) := ⟨fun i hi => numL_fit _ hrl i (by rw [data_len]; exact hi)⟩
  have hval := Box.mk hv1
  replace hRaw := Box.mk hRaw
  have c0 : w.cell? ⟨b, 0, none⟩ = some (.string (btx l)) := h.cell 0
  have c1 : w.cell? ⟨b, 1, none⟩ = some (.int .i64 e) := h.cell 1
  have hsz := mk_size l
  subst he
  clear hv1 hv2 hrl hll hs hsd hb
  clear h
  go_enter Tryd.func50, Tryd.ntmps50
  go_wp2_with fail
  refine hRaw.out.mono ?_
  rintro r w2 ⟨rfl, hN⟩
  replace hN := Box.mk hN
  go_wp2_with fail
  go_loopw [6, 7] (fun s6 s7 wr => ∃ i : Nat, i ≤ s.size ∧ s7 = .int .i64 i ∧ s6 = .int .i64 (numL (s.data.toList.take i) : Int) ∧ w2 = wr) (fun _ s7 _ => s.size - (intOf s7).toNat)
  case atStart => exact ⟨0, by omega, rfl, rfl, rfl⟩
  case round =>
    obtain ⟨i, hi, rfl, rfl, rfl⟩ := hrel
    by_cases hlt : i < s.size
    · obtain ⟨x, hx⟩ : ∃ x, s[i] = x := ⟨_, rfl⟩
      have hst := numL_take s.data.toList i (by rw [data_len]; exact hlt)
      have hgx : s.data.toList.getD i 0 = x := by
        rw [← hx]
        have := mk_get s.data.toList i hlt
        exact this.symm
      rw [hgx] at hst
      have hnb := hfit.out i hlt
      rw [hst] at hnb
      obtain ⟨n, hn⟩ : ∃ n, numL (s.data.toList.take i) = n := ⟨_, rfl⟩
      rw [hn] at hst hnb
      have hxl := x.toNat_lt
      have hor : bits .or .i64 ((n : Int) * 256) (x.toNat : Int) = ((n * 256 + x.toNat : Nat) : Int) := by
        have := i64_or_nat (n * 256) x.toNat (by omega) (by omega)
        rw [or_byte] at this
        exact_mod_cast this
      have hwx : IntKind.i64.wrap (x.toNat : Int) = (x.toNat : Int) := by rw [IntKind.wrap_i64]; omega
      replace hst := Box.mk hst
      clear hgx
      go_wp2_with fail
      exact ⟨⟨i + 1, by omega, by go_num, by rw [hst.out]; exact u_eq (by omega), trivial⟩, by simp [intOf]; omega⟩
    · obtain rfl : i = s.size := by omega
      rw [List.take_of_length_le (by rw [data_len]; exact Nat.le_refl _)]
      go_wp2_with fail
      go_returns
      exact ⟨by rw [hval.out]; rfl, hN.out⟩
set_option maxHeartbeats 3200000 in
set_option maxRecDepth 100000 in
theorem xnumber_fits (b : Nat) (l : List UInt8) (e : Int) (w : World) (h : RAt w b 71 l e) (he : e = 0) (hl : 8 ≤ l.length) (ht : (l.getD 0 0).toNat < 128) :
    Calls Tryd.prog 50 #[.pointer (some ⟨b, 0, none⟩), .int .i64 8] w fun r w' => r = .returned (.int .i64 (numR 8 l e).1) ∧ RNext w b 71 (numR 8 l e).2.1 (numR 8 l e).2.2 w' := by
  have hb : e = 0 → 8 ≤ l.length → numL (l.take 8) ≤ 9223372036854775807 := fun _ _ => by
    refine (numL_top (l.take 8) (by rw [List.length_take]; omega)).1 ?_
    rw [List.getD, List.getElem?_take_of_lt (by omega)]; exact ht
  have hrl := raw8_num l e hb
  have hll := raw8_len l e
  have hRaw := xraw_any b l e 8 w h
  obtain ⟨hv1, hv2⟩ := raw_num 8 l e hb
  change (numL (rawR 8 l e).1 : Int) = (numR 8 l e).1 at hv1
  change (rawR 8 l e).2 = (numR 8 l e).2 at hv2
  rw [hv2] at hRaw
  generalize numR 8 l e = R at hv1 hRaw ⊢
  generalize rawR 8 l e = P at hv1 hRaw hrl hll
  obtain ⟨s, hs⟩ : ∃ s, btx P.1 = s := ⟨_, rfl⟩
  have hsd : s.data.toList = P.1 := by rw [← hs]; rfl
  have hss : s.size ≤ 8 := by rw [← data_len, hsd]; exact hll
  rw [hs] at hRaw
  rw [← hsd] at hv1 hrl
  have hfit : Box (∀ i, i < s.size → numL (s.data.toList.take (i + 1)) ≤ 9223372036854775807) := ⟨fun i hi => numL_fit _ hrl i (by rw [data_len]; exact hi)⟩
  have hval := Box.mk hv1
  replace hRaw := Box.mk hRaw
  have c0 : w.cell? ⟨b, 0, none⟩ = some (.string (btx l)) := h.cell 0
  have c1 : w.cell? ⟨b, 1, none⟩ = some (.int .i64 e) := h.cell 1
  have hsz := mk_size l
  subst he
  have hz : 0 < (btx l).size := by rw [hsz]; omega
  have hg : ∀ h : 0 < (btx l).size, (btx l)[0]'h = l.getD 0 0 := fun h => mk_get l 0 h
  obtain ⟨x0, hx0⟩ : ∃ x, l.getD 0 0 = x := ⟨_, rfl⟩
  rw [hx0] at ht
  simp only [hx0] at hg
  have hge : ¬ (128 : Int) ≤ (x0.toNat : Int) := by omega
  clear hv1 hv2 hrl hll hs hsd hb hx0
  clear h
  go_enter Tryd.func50, Tryd.ntmps50
  go_wp2_with fail
  refine hRaw.out.mono ?_
  rintro r w2 ⟨rfl, hN⟩
  replace hN := Box.mk hN
  go_wp2_with fail
  go_loopw [6, 7] (fun s6 s7 wr => ∃ i : Nat, i ≤ s.size ∧ s7 = .int .i64 i ∧ s6 = .int .i64 (numL (s.data.toList.take i) : Int) ∧ w2 = wr) (fun _ s7 _ => s.size - (intOf s7).toNat)
  case atStart => exact ⟨0, by omega, rfl, rfl, rfl⟩
  case round =>
    obtain ⟨i, hi, rfl, rfl, rfl⟩ := hrel
    by_cases hlt : i < s.size
    · obtain ⟨x, hx⟩ : ∃ x, s[i] = x := ⟨_, rfl⟩
      have hst := numL_take s.data.toList i (by rw [data_len]; exact hlt)
      have hgx : s.data.toList.getD i 0 = x := by
        rw [← hx]
        have := mk_get s.data.toList i hlt
        exact this.symm
      rw [hgx] at hst
      have hnb := hfit.out i hlt
      rw [hst] at hnb
      obtain ⟨n, hn⟩ : ∃ n, numL (s.data.toList.take i) = n := ⟨_, rfl⟩
      rw [hn] at hst hnb
      have hxl := x.toNat_lt
      have hor : bits .or .i64 ((n : Int) * 256) (x.toNat : Int) = ((n * 256 + x.toNat : Nat) : Int) := by
        have := i64_or_nat (n * 256) x.toNat (by omega) (by omega)
        rw [or_byte] at this
        exact_mod_cast this
      have hwx : IntKind.i64.wrap (x.toNat : Int) = (x.toNat : Int) := by rw [IntKind.wrap_i64]; omega
      replace hst := Box.mk hst
      clear hgx
      go_wp2_with fail
      exact ⟨⟨i + 1, by omega, by go_num, by rw [hst.out]; exact u_eq (by omega), trivial⟩, by simp [intOf]; omega⟩
    · obtain rfl : i = s.size := by omega
      rw [List.take_of_length_le (by rw [data_len]; exact Nat.le_refl _)]
      go_wp2_with fail
      go_returns
      exact ⟨by rw [hval.out]; rfl, hN.out⟩
set_option maxHeartbeats 3200000 in
set_option maxRecDepth 100000 in
theorem xnumber_great (b : Nat) (l : List UInt8) (e : Int) (w : World) (h : RAt w b 71 l e) (he : e = 0) (hl : 8 ≤ l.length) (ht : ¬ (l.getD 0 0).toNat < 128) :
    Calls Tryd.prog 50 #[.pointer (some ⟨b, 0, none⟩), .int .i64 8] w fun r w' => r = .returned (.int .i64 (numR 8 l e).1) ∧ RNext w b 71 (numR 8 l e).2.1 (numR 8 l e).2.2 w' := by
  have hR : numR 8 l e = (0, l, 3) := by
    have h1 : ¬ numL (l.take 8) ≤ 9223372036854775807 := fun h2 => ht (by
      have := (numL_top (l.take 8) (by rw [List.length_take]; omega)).2 h2
      rw [List.getD, List.getElem?_take_of_lt (by omega)] at this; exact this)
    subst he
    simp [numR, show ¬ l.length < 8 by omega, show 9223372036854775807 < numL (l.take 8) by omega]
  rw [hR]
  clear hR
  subst he
  have hF := xfail_any b l 0 3 w h
  have c0 : w.cell? ⟨b, 0, none⟩ = some (.string (btx l)) := h.cell 0
  have c1 : w.cell? ⟨b, 1, none⟩ = some (.int .i64 0) := h.cell 1
  have hsz := mk_size l
  have hz : 0 < (btx l).size := by rw [hsz]; omega
  have hg : ∀ h : 0 < (btx l).size, (btx l)[0]'h = l.getD 0 0 := fun h => mk_get l 0 h
  obtain ⟨x0, hx0⟩ : ∃ x, l.getD 0 0 = x := ⟨_, rfl⟩
  rw [hx0] at ht
  simp only [hx0] at hg
  have hge : (128 : Int) ≤ (x0.toNat : Int) := by omega
  clear hx0
  replace hF := Box.mk hF
  clear h
  go_enter Tryd.func50, Tryd.ntmps50
  go_wp2_with fail
  refine hF.out.mono ?_
  rintro r w1 ⟨rfl, hN1⟩
  have hRaw := xraw_any b l 3 8 w1 hN1.at_
  rw [show rawR 8 l 3 = ([], l, 3) by simp [rawR]] at hRaw
  replace hRaw := Box.mk hRaw
  replace hN1 := Box.mk hN1
  have he0 := mk_size []
  go_wp2_with fail
  refine hRaw.out.mono ?_
  rintro r w2 ⟨rfl, hN⟩
  replace hN := Box.mk hN
  go_wp2_with fail
  go_loopw [6, 7] (fun s6 s7 wr => s7 = .int .i64 0 ∧ s6 = .int .i64 0 ∧ w2 = wr) (fun _ _ _ => 0)
  case atStart => exact ⟨rfl, rfl, rfl⟩
  case round =>
    obtain ⟨rfl, rfl, rfl⟩ := hrel
    go_wp2_with fail
    go_returns
    exact ⟨rfl, hN1.out.trans hN.out⟩
end Go.Proofs.YtdnhpldcnmbncaaDoor.Pk


/- Walks of the document's reader: texts; the two readers made; one call of both. -/
namespace Go.Proofs.YtdnhpldcnmbncaaDoor.Pk
open Go.RowKit

theorem xnumber_any (b : Nat) (l : List UInt8) (e : Int) (k : Nat) (w : World) (h : RAt w b 71 l e) (hk : k ≤ 8) :
    Calls Tryd.prog 50 #[.pointer (some ⟨b, 0, none⟩), .int .i64 (k : Int)] w fun r w' => r = .returned (.int .i64 (numR k l e).1) ∧ RNext w b 71 (numR k l e).2.1 (numR k l e).2.2 w' := by
  rcases Nat.lt_or_ge k 8 with h8 | h8
  · exact xnumber_low b l e k w h (by omega)
  · obtain rfl : k = 8 := by omega
    by_cases he : e = 0
    · by_cases hl : l.length < 8
      · exact xnumber_short b l e w h he hl
      · by_cases ht : (l.getD 0 0).toNat < 128
        · exact xnumber_fits b l e w h he (by omega) ht
        · exact xnumber_great b l e w h he (by omega) ht
    · exact xnumber_err b l e w h he
theorem numR_two (l : List UInt8) (h : ¬ l.length < 2) : numR 2 l 0 = ((numL (l.take 2) : Int), l.drop 2, 0) ∧ numL (l.take 2) ≤ 65535 := by
  have hb := numL_lt 2 (l.take 2) (by rw [List.length_take]; omega)
  have h2 : (256 : Nat) ^ 2 = 65536 := by decide
  refine ⟨?_, by omega⟩
  simp [numR, h, show ¬ 9223372036854775807 < numL (l.take 2) by omega]
set_option maxHeartbeats 400000 in
theorem read_new (s : ByteArray) (w : World) :
    Calls Tryd.prog 44 #[.string s] w fun e w' => e = .returned (.pointer (some ⟨w.heap.size, 0, none⟩)) ∧ RAt w' w.heap.size 86 s.data.toList 0 ∧ Below w.heap.size w w' := by
  go_enter Tryd.func44, Tryd.ntmps44
  go_wp2
  go_returns
  exact ⟨rfl, Blk.new w [.string s, .int .i64 0] _, (Below.refl _ _).alloc (Nat.le_refl _) _⟩
set_option maxHeartbeats 400000 in
theorem xread_new (s : ByteArray) (w : World) :
    Calls Tryd.prog 49 #[.string s] w fun e w' => e = .returned (.pointer (some ⟨w.heap.size, 0, none⟩)) ∧ RAt w' w.heap.size 71 s.data.toList 0 ∧ Below w.heap.size w w' := by
  go_enter Tryd.func49, Tryd.ntmps49
  go_wp2
  go_returns
  exact ⟨rfl, Blk.new w [.string s, .int .i64 0] _, (Below.refl _ _).alloc (Nat.le_refl _) _⟩
end Go.Proofs.YtdnhpldcnmbncaaDoor.Pk


/- Walks of the document's writer. -/
namespace Go.Proofs.YtdnhpldcnmbncaaDoor.Pk
open Go.RowKit

set_option maxHeartbeats 800000 in
set_option maxRecDepth 100000 in
theorem num01_any (x k : Nat) (w : World) (hk : k ≤ 8) :
    Calls Tryd.prog 80 #[.slice none 0 0, .int .u64 (x : Int), .int .i64 (k : Int)] w
      fun e w' => ∃ v', e = .returned v' ∧ Own w' v' (beN x k) ∧ Below w.heap.size w w' := by
  go_enter Tryd.func80, Tryd.ntmps80
  go_wp2_with fail
  go_loopw [0, 7] (fun s0 q wr => ∃ (i : Nat) (p : List UInt8), i ≤ k ∧ q = .int .i64 ((i : Int) - 1) ∧ Box (p ++ beN x i = beN x k) ∧ Box (p.length + i = k) ∧ Box (Own wr s0 p) ∧ Box (∀ j, s0.ownBlock = some j → w.heap.size ≤ j) ∧ Box (Below w.heap.size w wr)) (fun _ q _ => (intOf q + 1).toNat)
  case atStart => exact ⟨k, [], Nat.le_refl _, rfl, ⟨rfl⟩, ⟨by simp⟩, ⟨Own.nil _⟩, ⟨fun j hj => by cases hj⟩, ⟨Below.refl _ _⟩⟩
  case round =>
    obtain ⟨i, p, hi, rfl, hp, hpl, hO, hj, hB⟩ := hrel
    by_cases h0 : 0 < i
    · obtain ⟨j, rfl⟩ : ∃ j, i = j + 1 := ⟨i - 1, by omega⟩
      obtain ⟨d, hd⟩ : ∃ d, UInt8.ofNat (x / 2 ^ (8 * j) % 256) = d := ⟨_, rfl⟩
      have hcv : (x : Int) / 2 ^ (8 * j) % 256 = (d.toNat : Int) := by
        rw [← hd, UInt8.toNat_ofNat']
        have h1 : x / 2 ^ (8 * j) % 256 % 2 ^ 8 = x / 2 ^ (8 * j) % 256 := Nat.mod_eq_of_lt (by omega)
        rw [h1]; simp
      replace hd := Box.mk hd
      have hO2 : Box (Own (wr.alloc (.cells #[Value.int .u8 (d.toNat : Int)] 5)) u0 p) := ⟨hO.out.chg ((Chg.refl (fun _ => False) _).alloc _) fun _ _ h => h⟩
      have hB2 : Box (Below w.heap.size w (wr.alloc (.cells #[Value.int .u8 (d.toNat : Int)] 5))) := ⟨hB.out.alloc hB.out.size _⟩
      have hnw := Box.mk (byte_new wr d)
      have hcap : Box (p.length + [d].length ≤ 70368744177664) := ⟨by have := hpl.out; simp only [List.length_cons, List.length_nil]; omega⟩
      clear hO
      go_wp2_with (refine wpList_pushB rfl (.tmp 14) (.tmp 20) rfl u0 p rfl hO2.out wr.heap.size 1 [d] rfl hnw.out hcap.out ?_; intro v2 w2 hp2; replace hp2 := Box.mk hp2)
      have hm : (intOf (Value.int IntKind.i64 ((j : Int) - 1)) + 1).toNat < (intOf (Value.int IntKind.i64 (((j + 1 : Nat) : Int) - 1)) + 1).toNat := by simp [intOf]
      refine ⟨⟨j, p ++ [d], by omega, by go_num, ⟨?_⟩, ⟨?_⟩, ⟨hp2.out.own⟩, ⟨fun q hq => ?_⟩, ⟨hB2.out.trans (hp2.out.chg.below hB2.out.size hj.out)⟩⟩, hm⟩
      · rw [← hp.out, beN, hd.out, List.append_assoc]; rfl
      · have := hpl.out; rw [List.length_append]; simp only [List.length_cons, List.length_nil]; omega
      · rcases hp2.out.place q hq with h | h
        · exact hj.out q h
        · have := hB2.out.size; omega
    · obtain rfl : i = 0 := by omega
      have hp' := hp.out
      rw [beN, List.append_nil] at hp'
      rw [hp'] at hO
      go_wp2_with fail
      go_ret
      exact ⟨_, rfl, hO.out, hB.out⟩
def bstr (l : List UInt8) : ByteArray := ⟨l.toArray⟩
set_option maxHeartbeats 800000 in
set_option maxRecDepth 100000 in
theorem numb01_any (x k : Nat) (w : World) (hk : k ≤ 8) :
    Calls Tryd.prog 67 #[.int .u64 (x : Int), .int .i64 (k : Int)] w
      fun e w' => e = .returned (.string (bstr (beN x k))) ∧ Below w.heap.size w w' := by
  have h1 := num01_any x k w hk
  go_enter Tryd.func67, Tryd.ntmps67
  go_wp2_with fail
  refine h1.mono ?_
  rintro e w1 ⟨v1, rfl, hO, hB⟩
  have hcv := own_text hO
  replace hcv := Box.mk hcv
  replace hB := Box.mk hB
  clear h1 hO
  go_wp2_with fail
  rw [hcv.out]
  go_wp2_with fail
  go_returns
  exact ⟨rfl, hB.out⟩

set_option maxHeartbeats 1600000 in
set_option maxRecDepth 100000 in
theorem xnum_bad (b : Nat) (v : Value) (l : List UInt8) (bad : Bool) (n : Int) (k : Nat) (w : World) (hk : k = 1 ∨ k = 2 ∨ k = 4 ∨ k = 8) (hn : -9223372036854775808 ≤ n ∧ n ≤ 9223372036854775807) (hW : WAt w b 57 v l bad) (hf : fits n k = false) :
    Calls Tryd.prog 40 #[.pointer (some ⟨b, 0, none⟩), .int .i64 n, .int .i64 (k : Int)] w fun e w' => e = .returned (.tuple #[]) ∧ WNext w b 57 v l true w' := by
  have c1 : w.cell? ⟨b, 1, none⟩ = some (.bool bad) := hW.blk.cell 1
  have f1 := hW.blk.free 1
  replace hW := Box.mk hW
  by_cases h0 : n < 0
  · go_enter Tryd.func40, Tryd.ntmps40
    go_wp2_with fail
    go_returns
    exact ⟨rfl, WNext.setBad hW.out (by decide) true⟩
  · obtain rfl | rfl | rfl | rfl := hk
    · have hge : 256 ≤ n := by simp [fits] at hf; omega
      clear hf
      go_enter Tryd.func40, Tryd.ntmps40
      go_wp2_with fail
      go_returns
      exact ⟨rfl, WNext.setBad hW.out (by decide) true⟩
    · have hge : 65536 ≤ n := by simp [fits] at hf; omega
      clear hf
      go_enter Tryd.func40, Tryd.ntmps40
      go_wp2_with fail
      go_returns
      exact ⟨rfl, WNext.setBad hW.out (by decide) true⟩
    · have hge : 4294967296 ≤ n := by simp [fits] at hf; omega
      clear hf
      go_enter Tryd.func40, Tryd.ntmps40
      go_wp2_with fail
      go_returns
      exact ⟨rfl, WNext.setBad hW.out (by decide) true⟩
    · exfalso; simp [fits] at hf; omega
set_option maxHeartbeats 1600000 in
set_option maxRecDepth 100000 in
theorem xnum_fit (b : Nat) (v : Value) (l : List UInt8) (bad : Bool) (n k : Nat) (w : World) (hk : k = 1 ∨ k = 2 ∨ k = 4 ∨ k = 8) (hn : n ≤ 9223372036854775807) (hW : WAt w b 57 v l bad) (hf : fits n k = true) (hlen : l.length ≤ 35184372088832) :
    Calls Tryd.prog 40 #[.pointer (some ⟨b, 0, none⟩), .int .i64 (n : Int), .int .i64 (k : Int)] w fun e w' => e = .returned (.tuple #[]) ∧ WNext w b 57 v (l ++ beN n k) bad w' := by
  have hwn : IntKind.u64.wrap (n : Int) = (n : Int) := by rw [IntKind.wrap_u64]; omega
  have hNum := fun w => numb01_any n k w (by omega)
  have hcap : Box (l.length + (bstr (beN n k)).size ≤ 70368744177664) := ⟨by show l.length + (beN n k).length ≤ _; rw [beN_length]; omega⟩
  have hbd : Box ((bstr (beN n k)).data.toList = beN n k) := ⟨rfl⟩
  generalize bstr (beN n k) = q at hNum hcap hbd
  replace hbd := hbd.out
  obtain ⟨B, hB⟩ : ∃ B, beN n k = B := ⟨_, rfl⟩
  rw [hB] at hbd ⊢
  replace hbd := Box.mk hbd
  replace hW := Box.mk hW
  obtain ⟨a1, c1, rfl⟩ := hW.out.own.shape
  obtain rfl | rfl | rfl | rfl := hk
  all_goals
    have hlt := hf
    simp [fits] at hlt
    clear hf hB
    go_enter Tryd.func40, Tryd.ntmps40
    go_wp2_with fail
    have hWd : Box (WAt w.drew b 57 (.slice a1 l.length c1) l bad) := ⟨hW.out.drew⟩
    have hCd : Box (Chg (fun i => i = b ∨ (Value.slice a1 l.length c1).ownBlock = some i) w w.drew) := ⟨(Chg.refl _ _).drew⟩
    refine region_go (C := fun _ => True) rfl ?_
    generalize w.drew = wd at hWd hCd ⊢
    clear hW
    have k0 : wd.cell? ⟨b, 0, none⟩ = some (.slice a1 l.length c1) := hWd.out.blk.cell 0
    refine go_calms [0, 1, 2, 3, 5, 6, 7] 6 rfl (by kernel_rfl) (by kernel_rfl) (by kernel_rfl) True.intro ?_
    simp [nth]
    repeat (go_big_quiet_step (first | exact fun _ => rfl | rfl))
    refine wpQuiet_nil ?_
    refine go_fork 4 8 (by kernel_rfl) (goOp_wp 4 rfl rfl (fun K hK => ?_)) (goOp_wp 8 rfl rfl (fun K hK => ?_))
    · go_simp
      refine hK _ _ True.intro ?_
      clear hK K
      refine go_forced 8 (by kernel_rfl) (goOp_wp 8 rfl rfl (fun K hK => ?_))
      go_simp
      refine (hNum wd).mono ?_
      rintro e w1 ⟨rfl, hb1⟩
      refine hK _ _ True.intro ?_
      clear hK K k0
      have hcb := Chg.of_below hb1
      have hA1 := Box.mk (hWd.out.chg hcb (by have := hWd.out.blk.lt; omega) (fun j hj => by have := hWd.out.own.lt j hj; omega))
      have hC1 := Box.mk (hCd.out.trans hcb (fun i hi hb => by have := hCd.out.size; omega))
      clear hcb hb1 hWd hCd
      refine go_forced 9 (by kernel_rfl) (goOp_wp 9 rfl rfl (fun K hK => ?_))
      refine wp_pushS (.tmp 26) (.tmp 30) rfl (.slice a1 l.length c1) l rfl hA1.out.own q rfl hcap.out ?_
      intro v2 w2 hp2
      obtain ⟨a2, c2, rfl⟩ := hp2.own.shape
      rw [show (l ++ q.data.toList).length = l.length + q.size by rw [List.length_append, data_len]] at hp2 ⊢
      obtain ⟨k2, k3⟩ := hA1.out.after (by decide) hp2
      replace hp2 := Box.mk hp2
      refine hK _ _ True.intro ?_
      clear hK K
      simp only [Act.put, List.setIfInBounds_toArray]
      refine go_calms [10, 11] 1 rfl (by kernel_rfl) (by kernel_rfl) (by kernel_rfl) True.intro ?_
      simp [nth]
      repeat (go_big_quiet_step (first | exact fun _ => rfl | rfl))
      refine wpQuiet_nil ?_
      refine go_forced 12 (by kernel_rfl) (goOp_wp 12 rfl rfl (fun K hK => ?_))
      go_simp
      refine hK _ _ True.intro ?_
      clear hK K
      refine go_done (by kernel_rfl) ?_
      go_wp2_with fail
      go_returns
      refine ⟨rfl, ?_⟩
      have hS := WNext.trans hA1.out hC1.out (fun k hk => .inl hk) (hA1.out.store (by decide) hp2.out)
      rw [hbd.out] at hS
      exact hS
    · go_simp
      refine (hNum wd).mono ?_
      rintro e w1 ⟨rfl, hb1⟩
      refine hK _ _ True.intro ?_
      clear hK K k0
      have hcb := Chg.of_below hb1
      have hA1 := Box.mk (hWd.out.chg hcb (by have := hWd.out.blk.lt; omega) (fun j hj => by have := hWd.out.own.lt j hj; omega))
      have hC1 := Box.mk (hCd.out.trans hcb (fun i hi hb => by have := hCd.out.size; omega))
      have k0 : w1.cell? ⟨b, 0, none⟩ = some (.slice a1 l.length c1) := hA1.out.blk.cell 0
      clear hcb hb1 hWd hCd
      refine go_forced 4 (by kernel_rfl) (goOp_wp 4 rfl rfl (fun K hK => ?_))
      go_simp
      refine hK _ _ True.intro ?_
      clear hK K
      refine go_forced 9 (by kernel_rfl) (goOp_wp 9 rfl rfl (fun K hK => ?_))
      refine wp_pushS (.tmp 26) (.tmp 30) rfl (.slice a1 l.length c1) l rfl hA1.out.own q rfl hcap.out ?_
      intro v2 w2 hp2
      obtain ⟨a2, c2, rfl⟩ := hp2.own.shape
      rw [show (l ++ q.data.toList).length = l.length + q.size by rw [List.length_append, data_len]] at hp2 ⊢
      obtain ⟨k2, k3⟩ := hA1.out.after (by decide) hp2
      replace hp2 := Box.mk hp2
      refine hK _ _ True.intro ?_
      clear hK K
      simp only [Act.put, List.setIfInBounds_toArray]
      refine go_calms [10, 11] 1 rfl (by kernel_rfl) (by kernel_rfl) (by kernel_rfl) True.intro ?_
      simp [nth]
      repeat (go_big_quiet_step (first | exact fun _ => rfl | rfl))
      refine wpQuiet_nil ?_
      refine go_forced 12 (by kernel_rfl) (goOp_wp 12 rfl rfl (fun K hK => ?_))
      go_simp
      refine hK _ _ True.intro ?_
      clear hK K
      refine go_done (by kernel_rfl) ?_
      go_wp2_with fail
      go_returns
      refine ⟨rfl, ?_⟩
      have hS := WNext.trans hA1.out hC1.out (fun k hk => .inl hk) (hA1.out.store (by decide) hp2.out)
      rw [hbd.out] at hS
      exact hS
end Go.Proofs.YtdnhpldcnmbncaaDoor.Pk


/- Walks of the document's writer: texts, hashes, what it answers; a nil writer. -/
namespace Go.Proofs.YtdnhpldcnmbncaaDoor.Pk
open Go.RowKit

/-- What a call of the document's writer leaves. -/
def laysX (ok : Bool) (s l : List UInt8) : List UInt8 := if ok then l ++ s else l
theorem xnum_any (b : Nat) (v : Value) (l : List UInt8) (bad : Bool) (n : Int) (k : Nat) (w : World) (hk : k = 1 ∨ k = 2 ∨ k = 4 ∨ k = 8) (hn : -9223372036854775808 ≤ n ∧ n ≤ 9223372036854775807) (hW : WAt w b 57 v l bad) (hlen : l.length ≤ 35184372088832) :
    Calls Tryd.prog 40 #[.pointer (some ⟨b, 0, none⟩), .int .i64 n, .int .i64 (k : Int)] w fun e w' => e = .returned (.tuple #[]) ∧ WNext w b 57 v (laysX (fits n k) (beN n.toNat k) l) (bad || !fits n k) w' := by
  cases hf : fits n k with
  | false => exact (xnum_bad b v l bad n k w hk hn hW hf).mono fun e w' ⟨he, hN⟩ => ⟨he, by simpa [laysX] using hN⟩
  | true =>
    obtain ⟨m, rfl⟩ : ∃ m : Nat, n = m := ⟨n.toNat, by simp [fits] at hf; omega⟩
    exact (xnum_fit b v l bad m k w hk (by omega) hW hf hlen).mono fun e w' ⟨he, hN⟩ => ⟨he, by simpa [laysX] using hN⟩
set_option maxHeartbeats 800000 in
set_option maxRecDepth 100000 in
theorem xhash_lay (b : Nat) (v : Value) (l : List UInt8) (bad : Bool) (s : ByteArray) (w : World) (hW : WAt w b 57 v l bad) (hlen : l.length ≤ 35184372088000) :
    Calls Tryd.prog 41 #[.pointer (some ⟨b, 0, none⟩), .string s] w fun e w' => e = .returned (.tuple #[]) ∧ WNext w b 57 v (laysX (decide (s.size = 32)) s.data.toList l) (bad || !decide (s.size = 32)) w' := by
  by_cases hs : s.size = 32
  · have hsB := Box.mk hs
    have hse : ((s.size : Int) == 32) = true := by simp; omega
    obtain ⟨a1, c1, rfl⟩ := hW.own.shape
    have k0 : w.cell? ⟨b, 0, none⟩ = some (.slice a1 l.length c1) := hW.blk.cell 0
    have hcap : Box (l.length + s.size ≤ 70368744177664) := ⟨by omega⟩
    have hO := Box.mk hW.own
    replace hW := Box.mk hW
    clear hs
    go_enter Tryd.func41, Tryd.ntmps41
    go_wp2_with (refine wpList_pushS rfl (.tmp 14) (.tmp 15) rfl (.slice a1 l.length c1) l rfl hO.out s rfl hcap.out ?_; intro v2 w2 hp2; obtain ⟨a2, c2, rfl⟩ := hp2.own.shape; obtain ⟨k2, k3⟩ := hW.out.after (by decide) hp2; replace hp2 := Box.mk hp2)
    go_returns
    refine ⟨rfl, ?_⟩
    have hS := hW.out.store (by decide) hp2.out
    rw [show (l ++ s.data.toList).length = l.length + s.size by rw [List.length_append, data_len]] at hS
    simpa [laysX, hsB.out] using hS
  · have c1 : w.cell? ⟨b, 1, none⟩ = some (.bool bad) := hW.blk.cell 1
    have f1 := hW.blk.free 1
    have hse : ((s.size : Int) == 32) = false := by simp; omega
    replace hW := Box.mk hW
    have hsB := Box.mk hs
    clear hs
    go_enter Tryd.func41, Tryd.ntmps41
    go_wp2_with fail
    go_returns
    exact ⟨rfl, by simpa [laysX, hsB.out] using WNext.setBad hW.out (by decide) true⟩
set_option maxHeartbeats 800000 in
set_option maxRecDepth 100000 in
theorem xbytes_any (b : Nat) (v : Value) (l : List UInt8) (bad : Bool) (w : World) (hW : WAt w b 57 v l bad) :
    Calls Tryd.prog 42 #[.pointer (some ⟨b, 0, none⟩)] w fun e w' => e = .returned (bytesR l bad) ∧ w = w' := by
  have k0 : w.cell? ⟨b, 0, none⟩ = some v := hW.blk.cell 0
  have k1 : w.cell? ⟨b, 1, none⟩ = some (.bool bad) := hW.blk.cell 1
  have hcv := own_text hW.own
  clear hW
  cases bad with
  | true =>
    go_enter Tryd.func42, Tryd.ntmps42
    go_wp2_with fail
    go_returns
    exact ⟨rfl, rfl⟩
  | false =>
    replace hcv := Box.mk hcv
    go_enter Tryd.func42, Tryd.ntmps42
    go_wp2_with fail
    rw [hcv.out]
    go_wp2_with fail
    go_returns
    exact ⟨rfl, rfl⟩
set_option maxHeartbeats 400000 in
theorem byte_nil (n : Int) (w : World) :
    Calls Tryd.prog 64 #[.pointer none, .int .i64 n] w fun e w' => e = .returned (.tuple #[]) ∧ w = w' := by
  have hN := number_nil n 1 w (by omega)
  go_enter Tryd.func64, Tryd.ntmps64
  go_wp2_with fail
  refine hN.mono ?_
  rintro e w' ⟨rfl, rfl⟩
  go_wp2_with fail
  go_returns
  exact ⟨rfl, rfl⟩
set_option maxHeartbeats 400000 in
theorem two_nil (n : Int) (w : World) :
    Calls Tryd.prog 66 #[.pointer none, .int .i64 n] w fun e w' => e = .returned (.tuple #[]) ∧ w = w' := by
  have hN := number_nil n 2 w (by omega)
  go_enter Tryd.func66, Tryd.ntmps66
  go_wp2_with fail
  refine hN.mono ?_
  rintro e w' ⟨rfl, rfl⟩
  go_wp2_with fail
  go_returns
  exact ⟨rfl, rfl⟩
set_option maxHeartbeats 400000 in
theorem four_nil (n : Int) (w : World) :
    Calls Tryd.prog 65 #[.pointer none, .int .i64 n] w fun e w' => e = .returned (.tuple #[]) ∧ w = w' := by
  have hN := number_nil n 4 w (by omega)
  go_enter Tryd.func65, Tryd.ntmps65
  go_wp2_with fail
  refine hN.mono ?_
  rintro e w' ⟨rfl, rfl⟩
  go_wp2_with fail
  go_returns
  exact ⟨rfl, rfl⟩
set_option maxHeartbeats 400000 in
theorem hash_nil (s : ByteArray) (w : World) :
    Calls Tryd.prog 43 #[.pointer none, .string s] w fun e w' => e = .returned (.tuple #[]) ∧ w = w' := by
  have hT := fun f => takes_nil f w
  go_enter Tryd.func43, Tryd.ntmps43
  go_wp2_with fail
  refine (hT _).mono ?_
  rintro e w' ⟨rfl, rfl⟩
  go_wp2_with fail
  go_returns
  exact ⟨rfl, rfl⟩
end Go.Proofs.YtdnhpldcnmbncaaDoor.Pk

