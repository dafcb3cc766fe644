/- Walks of math/bits.Len, tree.cut and the document's power. -/
import Derived.Test.YtdnhpldcnmbncaaDoorTrA
import Derived.Test.YtdnhpldcnmbncaaDoorTrL
namespace Go.Proofs.YtdnhpldcnmbncaaDoor
open Go Go.RowKit

theorem bitAux_log : ∀ (f x : Nat), x ≠ 0 → x < 2 ^ f → Lib.bitLenAux f x = x.log2 + 1
  | 0, x, h0, h => by simp at h; omega
  | f + 1, x, h0, h => by
    rw [Lib.bitLenAux, if_neg h0, Nat.log2_def]
    by_cases h2 : 2 ≤ x
    · rw [if_pos h2, bitAux_log f (x / 2) (by omega) (by rw [Nat.pow_succ] at h; omega)]; omega
    · obtain rfl : x = 1 := by omega
      rw [if_neg (by omega)]
      cases f <;> rfl
theorem bit_log (x : Nat) (h0 : x ≠ 0) (h : x < 18446744073709551616) : Lib.bitLen x = x.log2 + 1 := bitAux_log 64 x h0 h
set_option maxHeartbeats 1600000 in
set_option maxRecDepth 100000 in
theorem len_any (x : Nat) (w : World) (h0 : x ≠ 0) (hx : x < 18446744073709551616) :
    Calls Tryd.prog 79 #[.int .u64 (x : Int)] w fun e w' => e = .returned (.int .i64 ((x.log2 + 1 : Nat) : Int)) ∧ w' = w := by
  have hF := Tryd.bits_Len64 (x : Int) w (by omega) (by omega)
  rw [Int.toNat_natCast, bit_log x h0 hx] at hF
  obtain ⟨L, hL⟩ : ∃ L, x.log2 + 1 = L := ⟨_, rfl⟩
  rw [hL] at hF ⊢
  clear h0 hL
  go_enter Tryd.func79, Tryd.ntmps79
  go_wp2_with fail
  refine hF.mono ?_
  rintro e w3 ⟨rfl, rfl⟩
  clear hF
  go_wp2_with fail
  go_ret
  exact ⟨rfl, rfl⟩
set_option maxHeartbeats 1600000 in
set_option maxRecDepth 100000 in
theorem cut_any (n : Nat) (w : World) (h2 : 2 ≤ n) (hn : n ≤ 9223372036854775807) :
    Calls Tryd.prog 59 #[.int .i64 (n : Int)] w fun e w' => e = .returned (.int .i64 ((cutN n : Nat) : Int)) ∧ w' = w := by
  have hF := len_any (n - 1) w (by omega) (by omega)
  have hlt := cutN_lt h2
  have hsm : (n - 1).log2 < 63 := (Nat.log2_lt (by omega)).2 (by omega)
  rw [show ((n - 1 : Nat) : Int) = (n : Int) - 1 by omega] at hF
  unfold cutN at hlt ⊢
  have hw : ∀ L : Nat, 2 ^ L < n → wrap64 ((2 : Int) ^ L) = ((2 ^ L : Nat) : Int) := fun L h => by
    rw [← show ((2 ^ L : Nat) : Int) = (2 : Int) ^ L from Int.natCast_pow 2 L]
    have := Nat.two_pow_pos L
    generalize 2 ^ L = q at *
    unfold wrap64; omega
  replace hw := hw _ hlt
  obtain ⟨L, hL⟩ : ∃ L, (n - 1).log2 = L := ⟨_, rfl⟩
  rw [hL] at hF hsm hw ⊢
  clear hL hlt
  go_enter Tryd.func59, Tryd.ntmps59
  go_wp2_with fail
  refine hF.mono ?_
  rintro e w3 ⟨rfl, rfl⟩
  clear hF
  go_wp2_with fail
  go_ret
  exact ⟨by simp [hw], rfl⟩
set_option maxHeartbeats 1600000 in
set_option maxRecDepth 100000 in
theorem power_any (n : Nat) (w : World) (h2 : 2 ≤ n) (hn : n ≤ 9223372036854775807) :
    Calls Tryd.prog 62 #[.int .i64 (n : Int)] w fun e w' => e = .returned (.int .i64 ((cutN n : Nat) : Int)) ∧ w' = w := by
  go_enter Tryd.func62, Tryd.ntmps62
  go_wp2_with fail
  go_loopw [3] (fun q wr => ∃ j : Nat, 2 ^ j < n ∧ q = .int .i64 ((2 ^ j : Nat) : Int) ∧ wr = w) (fun q _ => n - (intOf q).toNat)
  case atStart => exact ⟨0, by simp; omega, rfl, rfl⟩
  case round =>
    obtain ⟨j, hj, rfl, rfl⟩ := hrel
    have hcp := cutN_pow (j := j) (n := n) hj
    have hp := Nat.two_pow_pos j
    have hp2 := Nat.pow_succ (n := 2) (m := j)
    obtain ⟨p, hpe⟩ : ∃ p, 2 ^ j = p := ⟨_, rfl⟩
    rw [hpe] at hj hcp hp hp2 ⊢
    by_cases hlt : 2 * p < n
    · have ht : ((p : Int) < (n : Int) - (p : Int)) := by omega
      clear hcp
      go_wp2_with fail
      exact ⟨⟨j + 1, by rw [hp2]; omega, by rw [hp2]; congr 1; omega, trivial⟩, by simp [intOf]; omega⟩
    · have ht : ¬ ((p : Int) < (n : Int) - (p : Int)) := by omega
      obtain rfl := hcp (by omega)
      clear hcp hp2 hpe
      go_wp2_with fail
      go_ret
      exact ⟨rfl, rfl⟩
end Go.Proofs.YtdnhpldcnmbncaaDoor
