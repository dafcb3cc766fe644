/- Walks of the document's reader: numbers. -/
import Derived.Test.YtnfcgjefliccgaaPkG
namespace Go.Proofs.Ytnfcgjefliccgaa
open Go.RowKit

theorem raw8_len (l : List UInt8) (e : Int) : (rawR 8 l e).1.length ≤ 8 := by
  by_cases he : e = 0
  · by_cases hl : (l.length : Int) < 8
    · simp [rawR, he, hl]
    · simp [rawR, he, hl]; omega
  · simp [rawR, he]
theorem raw8_num (l : List UInt8) (e : Int) (hb : e = 0 → 8 ≤ l.length → numL (l.take 8) ≤ 9223372036854775807) : numL (rawR 8 l e).1 ≤ 9223372036854775807 := by
  by_cases he : e = 0
  · by_cases hl : (l.length : Int) < 8
    · simp [rawR, he, hl, numL]
    · have := hb he (by omega)
      simpa [rawR, he, hl] using this
  · simp [rawR, he, numL]
set_option maxHeartbeats 3200000 in
set_option maxRecDepth 100000 in
theorem xnumber_err (b : Nat) (l : List UInt8) (e : Int) (w : World) (h : RAt w b 47 l e) (he : e ≠ 0) :
    Calls Try.prog 36 #[.pointer (some ⟨b, 0, none⟩), .int .i64 8] w fun r w' => r = .returned (.int .i64 (numR 8 l e).1) ∧ RNext w b 47 (numR 8 l e).2.1 (numR 8 l e).2.2 w' := by
  have hb : e = 0 → 8 ≤ l.length → numL (l.take 8) ≤ 9223372036854775807 := fun h _ => absurd h he
  have hrl := raw8_num l e hb
  have hll := raw8_len l e
  have hRaw := xraw_any b l e 8 w h
  obtain ⟨hv1, hv2⟩ := raw_num 8 l e hb
  change (numL (rawR 8 l e).1 : Int) = (numR 8 l e).1 at hv1
  change (rawR 8 l e).2 = (numR 8 l e).2 at hv2
  rw [hv2] at hRaw
  generalize numR 8 l e = R at hv1 hRaw ⊢
  generalize rawR 8 l e = P at hv1 hRaw hrl hll
  obtain ⟨s, hs⟩ : ∃ s, btx P.1 = s := ⟨_, rfl⟩
  have hsd : s.data.toList = P.1 := by rw [← hs]; rfl
  have hss : s.size ≤ 8 := by rw [← data_len, hsd]; exact hll
  rw [hs] at hRaw
  rw [← hsd] at hv1 hrl
  have hfit : Box (∀ i, i < s.size → numL (s.data.toList.take (i + 1)) ≤ 9223372036854775807) := ⟨fun i hi => numL_fit _ hrl i (by rw [data_len]; exact hi)⟩
  have hval := Box.mk hv1
  replace hRaw := Box.mk hRaw
  have c0 : w.cell? ⟨b, 0, none⟩ = some (.string (btx l)) := h.cell 0
  have c1 : w.cell? ⟨b, 1, none⟩ = some (.int .i64 e) := h.cell 1
  have hsz := mk_size l
  have hf0 : (e == 0) = false := by simpa using he
  clear hv1 hv2 hrl hll hs hsd hb
  clear h
  go_enter Try.func36, Try.ntmps36
  go_wp2_with fail
  refine hRaw.out.mono ?_
  rintro r w2 ⟨rfl, hN⟩
  replace hN := Box.mk hN
  go_wp2_with fail
  go_loopw [6, 7] (fun s6 s7 wr => ∃ i : Nat, i ≤ s.size ∧ s7 = .int .i64 i ∧ s6 = .int .i64 (numL (s.data.toList.take i) : Int) ∧ w2 = wr) (fun _ s7 _ => s.size - (intOf s7).toNat)
  case atStart => exact ⟨0, by omega, rfl, rfl, rfl⟩
  case round =>
    obtain ⟨i, hi, rfl, rfl, rfl⟩ := hrel
    by_cases hlt : i < s.size
    · obtain ⟨x, hx⟩ : ∃ x, s[i] = x := ⟨_, rfl⟩
      have hst := numL_take s.data.toList i (by rw [data_len]; exact hlt)
      have hgx : s.data.toList.getD i 0 = x := by
        rw [← hx]
        have := mk_get s.data.toList i hlt
        exact this.symm
      rw [hgx] at hst
      have hnb := hfit.out i hlt
      rw [hst] at hnb
      obtain ⟨n, hn⟩ : ∃ n, numL (s.data.toList.take i) = n := ⟨_, rfl⟩
      rw [hn] at hst hnb
      have hxl := x.toNat_lt
      have hor : bits .or .i64 ((n : Int) * 256) (x.toNat : Int) = ((n * 256 + x.toNat : Nat) : Int) := by
        have := i64_or_nat (n * 256) x.toNat (by omega) (by omega)
        rw [or_byte] at this
        exact_mod_cast this
      have hwx : IntKind.i64.wrap (x.toNat : Int) = (x.toNat : Int) := by rw [IntKind.wrap_i64]; omega
      replace hst := Box.mk hst
      clear hgx
      go_wp2_with fail
      exact ⟨⟨i + 1, by omega, by go_num, by rw [hst.out]; exact u_eq (by omega), trivial⟩, by simp [intOf]; omega⟩
    · obtain rfl : i = s.size := by omega
      rw [List.take_of_length_le (by rw [data_len]; exact Nat.le_refl _)]
      go_wp2_with fail
      go_returns
      exact ⟨by rw [hval.out]; rfl, hN.out⟩
set_option maxHeartbeats 3200000 in
set_option maxRecDepth 100000 in
theorem xnumber_short (b : Nat) (l : List UInt8) (e : Int) (w : World) (h : RAt w b 47 l e) (he : e = 0) (hl : l.length < 8) :
    Calls Try.prog 36 #[.pointer (some ⟨b, 0, none⟩), .int .i64 8] w fun r w' => r = .returned (.int .i64 (numR 8 l e).1) ∧ RNext w b 47 (numR 8 l e).2.1 (numR 8 l e).2.2 w' := by
  have hb : e = 0 → 8 ≤ l.length → numL (l.take 8) ≤ 9223372036854775807 := fun _ h => by omega
  have hrl := raw8_num l e hb
  have hll := raw8_len l e
  have hRaw := xraw_any b l e 8 w h
  obtain ⟨hv1, hv2⟩ := raw_num 8 l e hb
  change (numL (rawR 8 l e).1 : Int) = (numR 8 l e).1 at hv1
  change (rawR 8 l e).2 = (numR 8 l e).2 at hv2
  rw [hv2] at hRaw
  generalize numR 8 l e = R at hv1 hRaw ⊢
  generalize rawR 8 l e = P at hv1 hRaw hrl hll
  obtain ⟨s, hs⟩ : ∃ s, btx P.1 = s := ⟨_, rfl⟩
  have hsd : s.data.toList = P.1 := by rw [← hs]; rfl
  have hss : s.size ≤ 8 := by rw [← data_len, hsd]; exact hll
  rw [hs] at hRaw
  rw [← hsd] at hv1 hrl
  have hfit : Box (∀ i, i < s.size → numL (s.data.toList.take (i + 1)) ≤ 9223372036854775807) := ⟨fun i hi => numL_fit _ hrl i (by rw [data_len]; exact hi)⟩
  have hval := Box.mk hv1
  replace hRaw := Box.mk hRaw
  have c0 : w.cell? ⟨b, 0, none⟩ = some (.string (btx l)) := h.cell 0
  have c1 : w.cell? ⟨b, 1, none⟩ = some (.int .i64 e) := h.cell 1
  have hsz := mk_size l
  subst he
  clear hv1 hv2 hrl hll hs hsd hb
  clear h
  go_enter Try.func36, Try.ntmps36
  go_wp2_with fail
  refine hRaw.out.mono ?_
  rintro r w2 ⟨rfl, hN⟩
  replace hN := Box.mk hN
  go_wp2_with fail
  go_loopw [6, 7] (fun s6 s7 wr => ∃ i : Nat, i ≤ s.size ∧ s7 = .int .i64 i ∧ s6 = .int .i64 (numL (s.data.toList.take i) : Int) ∧ w2 = wr) (fun _ s7 _ => s.size - (intOf s7).toNat)
  case atStart => exact ⟨0, by omega, rfl, rfl, rfl⟩
  case round =>
    obtain ⟨i, hi, rfl, rfl, rfl⟩ := hrel
    by_cases hlt : i < s.size
    · obtain ⟨x, hx⟩ : ∃ x, s[i] = x := ⟨_, rfl⟩
      have hst := numL_take s.data.toList i (by rw [data_len]; exact hlt)
      have hgx : s.data.toList.getD i 0 = x := by
        rw [← hx]
        have := mk_get s.data.toList i hlt
        exact this.symm
      rw [hgx] at hst
      have hnb := hfit.out i hlt
      rw [hst] at hnb
      obtain ⟨n, hn⟩ : ∃ n, numL (s.data.toList.take i) = n := ⟨_, rfl⟩
      rw [hn] at hst hnb
      have hxl := x.toNat_lt
      have hor : bits .or .i64 ((n : Int) * 256) (x.toNat : Int) = ((n * 256 + x.toNat : Nat) : Int) := by
        have := i64_or_nat (n * 256) x.toNat (by omega) (by omega)
        rw [or_byte] at this
        exact_mod_cast this
      have hwx : IntKind.i64.wrap (x.toNat : Int) = (x.toNat : Int) := by rw [IntKind.wrap_i64]; omega
      replace hst := Box.mk hst
      clear hgx
      go_wp2_with fail
      exact ⟨⟨i + 1, by omega, by go_num, by rw [hst.out]; exact u_eq (by omega), trivial⟩, by simp [intOf]; omega⟩
    · obtain rfl : i = s.size := by omega
      rw [List.take_of_length_le (by rw [data_len]; exact Nat.le_refl _)]
      go_wp2_with fail
      go_returns
      exact ⟨by rw [hval.out]; rfl, hN.out⟩
set_option maxHeartbeats 3200000 in
set_option maxRecDepth 100000 in
theorem xnumber_fits (b : Nat) (l : List UInt8) (e : Int) (w : World) (h : RAt w b 47 l e) (he : e = 0) (hl : 8 ≤ l.length) (ht : (l.getD 0 0).toNat < 128) :
    Calls Try.prog 36 #[.pointer (some ⟨b, 0, none⟩), .int .i64 8] w fun r w' => r = .returned (.int .i64 (numR 8 l e).1) ∧ RNext w b 47 (numR 8 l e).2.1 (numR 8 l e).2.2 w' := by
  have hb : e = 0 → 8 ≤ l.length → numL (l.take 8) ≤ 9223372036854775807 := fun _ _ => by
    refine (numL_top (l.take 8) (by rw [List.length_take]; omega)).1 ?_
    rw [List.getD, List.getElem?_take_of_lt (by omega)]; exact ht
  have hrl := raw8_num l e hb
  have hll := raw8_len l e
  have hRaw := xraw_any b l e 8 w h
  obtain ⟨hv1, hv2⟩ := raw_num 8 l e hb
  change (numL (rawR 8 l e).1 : Int) = (numR 8 l e).1 at hv1
  change (rawR 8 l e).2 = (numR 8 l e).2 at hv2
  rw [hv2] at hRaw
  generalize numR 8 l e = R at hv1 hRaw ⊢
  generalize rawR 8 l e = P at hv1 hRaw hrl hll
  obtain ⟨s, hs⟩ : ∃ s, btx P.1 = s := ⟨_, rfl⟩
  have hsd : s.data.toList = P.1 := by rw [← hs]; rfl
  have hss : s.size ≤ 8 := by rw [← data_len, hsd]; exact hll
  rw [hs] at hRaw
  rw [← hsd] at hv1 hrl
  have hfit : Box (∀ i, i < s.size → numL (s.data.toList.take (i + 1)) ≤ 9223372036854775807) := ⟨fun i hi => numL_fit _ hrl i (by rw [data_len]; exact hi)⟩
  have hval := Box.mk hv1
  replace hRaw := Box.mk hRaw
  have c0 : w.cell? ⟨b, 0, none⟩ = some (.string (btx l)) := h.cell 0
  have c1 : w.cell? ⟨b, 1, none⟩ = some (.int .i64 e) := h.cell 1
  have hsz := mk_size l
  subst he
  have hz : 0 < (btx l).size := by rw [hsz]; omega
  have hg : ∀ h : 0 < (btx l).size, (btx l)[0]'h = l.getD 0 0 := fun h => mk_get l 0 h
  obtain ⟨x0, hx0⟩ : ∃ x, l.getD 0 0 = x := ⟨_, rfl⟩
  rw [hx0] at ht
  simp only [hx0] at hg
  have hge : ¬ (128 : Int) ≤ (x0.toNat : Int) := by omega
  clear hv1 hv2 hrl hll hs hsd hb hx0
  clear h
  go_enter Try.func36, Try.ntmps36
  go_wp2_with fail
  refine hRaw.out.mono ?_
  rintro r w2 ⟨rfl, hN⟩
  replace hN := Box.mk hN
  go_wp2_with fail
  go_loopw [6, 7] (fun s6 s7 wr => ∃ i : Nat, i ≤ s.size ∧ s7 = .int .i64 i ∧ s6 = .int .i64 (numL (s.data.toList.take i) : Int) ∧ w2 = wr) (fun _ s7 _ => s.size - (intOf s7).toNat)
  case atStart => exact ⟨0, by omega, rfl, rfl, rfl⟩
  case round =>
    obtain ⟨i, hi, rfl, rfl, rfl⟩ := hrel
    by_cases hlt : i < s.size
    · obtain ⟨x, hx⟩ : ∃ x, s[i] = x := ⟨_, rfl⟩
      have hst := numL_take s.data.toList i (by rw [data_len]; exact hlt)
      have hgx : s.data.toList.getD i 0 = x := by
        rw [← hx]
        have := mk_get s.data.toList i hlt
        exact this.symm
      rw [hgx] at hst
      have hnb := hfit.out i hlt
      rw [hst] at hnb
      obtain ⟨n, hn⟩ : ∃ n, numL (s.data.toList.take i) = n := ⟨_, rfl⟩
      rw [hn] at hst hnb
      have hxl := x.toNat_lt
      have hor : bits .or .i64 ((n : Int) * 256) (x.toNat : Int) = ((n * 256 + x.toNat : Nat) : Int) := by
        have := i64_or_nat (n * 256) x.toNat (by omega) (by omega)
        rw [or_byte] at this
        exact_mod_cast this
      have hwx : IntKind.i64.wrap (x.toNat : Int) = (x.toNat : Int) := by rw [IntKind.wrap_i64]; omega
      replace hst := Box.mk hst
      clear hgx
      go_wp2_with fail
      exact ⟨⟨i + 1, by omega, by go_num, by rw [hst.out]; exact u_eq (by omega), trivial⟩, by simp [intOf]; omega⟩
    · obtain rfl : i = s.size := by omega
      rw [List.take_of_length_le (by rw [data_len]; exact Nat.le_refl _)]
      go_wp2_with fail
      go_returns
      exact ⟨by rw [hval.out]; rfl, hN.out⟩
set_option maxHeartbeats 3200000 in
set_option maxRecDepth 100000 in
theorem xnumber_great (b : Nat) (l : List UInt8) (e : Int) (w : World) (h : RAt w b 47 l e) (he : e = 0) (hl : 8 ≤ l.length) (ht : ¬ (l.getD 0 0).toNat < 128) :
    Calls Try.prog 36 #[.pointer (some ⟨b, 0, none⟩), .int .i64 8] w fun r w' => r = .returned (.int .i64 (numR 8 l e).1) ∧ RNext w b 47 (numR 8 l e).2.1 (numR 8 l e).2.2 w' := by
  have hR : numR 8 l e = (0, l, 3) := by
    have h1 : ¬ numL (l.take 8) ≤ 9223372036854775807 := fun h2 => ht (by
      have := (numL_top (l.take 8) (by rw [List.length_take]; omega)).2 h2
      rw [List.getD, List.getElem?_take_of_lt (by omega)] at this; exact this)
    subst he
    simp [numR, show ¬ l.length < 8 by omega, show 9223372036854775807 < numL (l.take 8) by omega]
  rw [hR]
  clear hR
  subst he
  have hF := xfail_any b l 0 3 w h
  have c0 : w.cell? ⟨b, 0, none⟩ = some (.string (btx l)) := h.cell 0
  have c1 : w.cell? ⟨b, 1, none⟩ = some (.int .i64 0) := h.cell 1
  have hsz := mk_size l
  have hz : 0 < (btx l).size := by rw [hsz]; omega
  have hg : ∀ h : 0 < (btx l).size, (btx l)[0]'h = l.getD 0 0 := fun h => mk_get l 0 h
  obtain ⟨x0, hx0⟩ : ∃ x, l.getD 0 0 = x := ⟨_, rfl⟩
  rw [hx0] at ht
  simp only [hx0] at hg
  have hge : (128 : Int) ≤ (x0.toNat : Int) := by omega
  clear hx0
  replace hF := Box.mk hF
  clear h
  go_enter Try.func36, Try.ntmps36
  go_wp2_with fail
  refine hF.out.mono ?_
  rintro r w1 ⟨rfl, hN1⟩
  have hRaw := xraw_any b l 3 8 w1 hN1.at_
  rw [show rawR 8 l 3 = ([], l, 3) by simp [rawR]] at hRaw
  replace hRaw := Box.mk hRaw
  replace hN1 := Box.mk hN1
  have he0 := mk_size []
  go_wp2_with fail
  refine hRaw.out.mono ?_
  rintro r w2 ⟨rfl, hN⟩
  replace hN := Box.mk hN
  go_wp2_with fail
  go_loopw [6, 7] (fun s6 s7 wr => s7 = .int .i64 0 ∧ s6 = .int .i64 0 ∧ w2 = wr) (fun _ _ _ => 0)
  case atStart => exact ⟨rfl, rfl, rfl⟩
  case round =>
    obtain ⟨rfl, rfl, rfl⟩ := hrel
    go_wp2_with fail
    go_returns
    exact ⟨rfl, hN1.out.trans hN.out⟩
end Go.Proofs.Ytnfcgjefliccgaa
