/- Walks of the document's reader: numbers. -/
import Derived.Test.YtnfcgjefliccgaaPkG
namespace Go.Proofs.Ytnfcgjefliccgaa
open Go.RowKit

set_option maxHeartbeats 3200000 in
set_option maxRecDepth 100000 in
theorem xnumber_low (b : Nat) (l : List UInt8) (e : Int) (k : Nat) (w : World) (h : RAt w b 47 l e) (hk : k ≤ 7) :
    Calls Try.prog 36 #[.pointer (some ⟨b, 0, none⟩), .int .i64 (k : Int)] w fun r w' => r = .returned (.int .i64 (numR k l e).1) ∧ RNext w b 47 (numR k l e).2.1 (numR k l e).2.2 w' := by
  have hRaw := xraw_any b l e k w h
  have hb : ∀ q : List UInt8, q.length ≤ k → numL q ≤ 9223372036854775807 := fun q hq => by
    have h1 := numL_lt q.length q rfl
    have h2 : 256 ^ q.length ≤ 256 ^ 7 := Nat.pow_le_pow_right (by omega) (by omega)
    have : (256 : Nat) ^ 7 = 72057594037927936 := by decide
    omega
  obtain ⟨hv1, hv2⟩ := raw_num k l e (fun _ _ => hb _ (by rw [List.length_take]; omega))
  have hrl : (rawR k l e).1.length ≤ k := by
    unfold rawR; split
    · simp
    · split
      · simp
      · split
        · simp
        · simp only [Int.toNat_natCast, List.length_take]; omega
  have hf := hb _ hrl
  rw [hv2] at hRaw
  generalize numR k l e = R at hv1 hRaw ⊢
  generalize rawR k l e = P at hv1 hRaw hf hrl
  obtain ⟨s, hs⟩ : ∃ s, btx P.1 = s := ⟨_, rfl⟩
  have hsd : s.data.toList = P.1 := by rw [← hs]; rfl
  have hss : s.size ≤ 8 := by rw [← data_len, hsd]; omega
  rw [hs] at hRaw
  rw [← hsd] at hv1 hf
  have hfit : Box (∀ i, i < s.size → numL (s.data.toList.take (i + 1)) ≤ 9223372036854775807) := ⟨fun i hi => numL_fit _ hf i (by rw [data_len]; exact hi)⟩
  have hval := Box.mk hv1
  replace hRaw := Box.mk hRaw
  have hk8 : ((k : Int) == 8) = false := by simp; omega
  clear h hb hv1 hv2 hrl hf hs hsd
  go_enter Try.func36, Try.ntmps36
  go_wp2_with fail
  refine hRaw.out.mono ?_
  rintro r w2 ⟨rfl, hN⟩
  replace hN := Box.mk hN
  go_wp2_with fail
  go_loopw [6, 7] (fun s6 s7 wr => ∃ i : Nat, i ≤ s.size ∧ s7 = .int .i64 i ∧ s6 = .int .i64 (numL (s.data.toList.take i) : Int) ∧ w2 = wr) (fun _ s7 _ => s.size - (intOf s7).toNat)
  case atStart => exact ⟨0, by omega, rfl, rfl, rfl⟩
  case round =>
    obtain ⟨i, hi, rfl, rfl, rfl⟩ := hrel
    by_cases hlt : i < s.size
    · obtain ⟨x, hx⟩ : ∃ x, s[i] = x := ⟨_, rfl⟩
      have hst := numL_take s.data.toList i (by rw [data_len]; exact hlt)
      have hgx : s.data.toList.getD i 0 = x := by
        rw [← hx]
        have := mk_get s.data.toList i hlt
        exact this.symm
      rw [hgx] at hst
      have hnb := hfit.out i hlt
      rw [hst] at hnb
      obtain ⟨n, hn⟩ : ∃ n, numL (s.data.toList.take i) = n := ⟨_, rfl⟩
      rw [hn] at hst hnb
      have hxl := x.toNat_lt
      have hor : bits .or .i64 ((n : Int) * 256) (x.toNat : Int) = ((n * 256 + x.toNat : Nat) : Int) := by
        have := i64_or_nat (n * 256) x.toNat (by omega) (by omega)
        rw [or_byte] at this
        exact_mod_cast this
      have hwx : IntKind.i64.wrap (x.toNat : Int) = (x.toNat : Int) := by rw [IntKind.wrap_i64]; omega
      replace hst := Box.mk hst
      clear hgx
      go_wp2_with fail
      exact ⟨⟨i + 1, by omega, by go_num, by rw [hst.out]; exact u_eq (by omega), trivial⟩, by simp [intOf]; omega⟩
    · obtain rfl : i = s.size := by omega
      rw [List.take_of_length_le (by rw [data_len]; exact Nat.le_refl _)]
      go_wp2_with fail
      go_returns
      exact ⟨by rw [hval.out]; rfl, hN.out⟩
end Go.Proofs.Ytnfcgjefliccgaa
