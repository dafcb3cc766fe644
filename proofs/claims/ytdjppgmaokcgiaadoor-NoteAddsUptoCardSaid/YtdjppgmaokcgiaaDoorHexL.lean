/- Walk of the law ShaHex. -/
import Derived.Test.YtdjppgmaokcgiaaDoorHexD
import Derived.Test.YtdjppgmaokcgiaaDoorHas
namespace Go.Proofs.YtdjppgmaokcgiaaDoor
open Go.RowKit

theorem digit_back : ∀ n : Fin 16, hvB (digit n.val) = true ∧ hvN (digit n.val) = n.val := by decide +kernel
theorem digit_of : ∀ x : UInt8, hvB x = true → digit (hvN x) = x := by
  intro x h
  have hx := x.toNat_lt
  unfold hvB at h
  simp only [decide_eq_true_eq] at h
  apply UInt8.toNat_inj.1
  rcases h with h | h
  · have e : hvN x = x.toNat - 48 := by unfold hvN; rw [if_pos h]
    rw [e, digit, if_pos (by omega), UInt8.toNat_ofNat']; omega
  · have e : hvN x = x.toNat - 87 := by unfold hvN; rw [if_neg (by omega), if_pos h]
    rw [e, digit, if_neg (by omega), UInt8.toNat_ofNat']; omega
theorem unhex_hex : ∀ l : List UInt8, unhexL (hexL l) = some l
  | [] => rfl
  | x :: l => by
    have hx := x.toNat_lt
    have h1 := digit_back ⟨x.toNat / 16, by omega⟩
    have h2 := digit_back ⟨x.toNat % 16, by omega⟩
    have e : hexL (x :: l) = digit (x.toNat / 16) :: digit (x.toNat % 16) :: hexL l := rfl
    simp only at h1 h2
    rw [e, unhexL, h1.1, h2.1, unhex_hex l]
    have e2 : pairB (digit (x.toNat / 16)) (digit (x.toNat % 16)) = x := by
      apply UInt8.toNat_inj.1
      rw [pair_nat, h1.2, h2.2]; omega
    simp [e2]
theorem hex_unhex : ∀ (n : Nat) (l o : List UInt8), l.length = n → unhexL l = some o → hexL o = l
  | 0, l, o, h, ho => by
    obtain rfl : l = [] := List.length_eq_zero_iff.1 h
    simp [unhexL] at ho; subst ho; rfl
  | 1, l, o, h, ho => by
    match l, h with
    | [a], _ => simp [unhexL] at ho
  | n + 2, l, o, h, ho => by
    match l, h with
    | a :: b :: r, h =>
      simp only [unhexL] at ho
      by_cases hb : (hvB a && hvB b) = true
      · rw [if_pos hb] at ho
        rw [Bool.and_eq_true] at hb
        cases hr : unhexL r with
        | none => rw [hr] at ho; simp at ho
        | some o' =>
          rw [hr] at ho
          simp at ho
          subst ho
          have ih := hex_unhex n r o' (by simp at h; omega) hr
          have e : hexL (pairB a b :: o') = digit ((pairB a b).toNat / 16) :: digit ((pairB a b).toNat % 16) :: hexL o' := rfl
          have h1 := hvN_lt a; have h2 := hvN_lt b
          rw [e, ih, pair_nat, show (16 * hvN a + hvN b) / 16 = hvN a by omega, show (16 * hvN a + hvN b) % 16 = hvN b by omega, digit_of a hb.1, digit_of b hb.2]
      · rw [if_neg hb] at ho; cases ho
theorem unT_hex (s : ByteArray) : unT (hexL s.data.toList) = s := by
  unfold unT; rw [unhex_hex]; rfl
theorem unB_hex (s : ByteArray) : unB (hexL s.data.toList) = true := by
  unfold unB; rw [unhex_hex]; rfl
theorem hex_unT (s : ByteArray) (h : unB s.data.toList = true) : (⟨(hexL (unT s.data.toList).data.toList).toArray⟩ : ByteArray) = s := by
  unfold unB at h
  cases hr : unhexL s.data.toList with
  | none => rw [hr] at h; cases h
  | some o =>
    have e : (unT s.data.toList).data.toList = o := by unfold unT; rw [hr]; rfl
    rw [e, hex_unhex _ _ _ rfl hr]
theorem unT_size (s : ByteArray) : (unT s.data.toList).size ≤ s.size := by
  unfold unT
  cases hr : unhexL s.data.toList with
  | none => exact Nat.zero_le _
  | some o =>
    have h1 := hex_unhex _ _ _ rfl hr
    have h2 : (hexL o).length = 2 * o.length := hexL_length o
    rw [h1, data_len] at h2
    rw [← data_len]
    show o.length ≤ s.size
    omega

end Go.Proofs.YtdjppgmaokcgiaaDoor
