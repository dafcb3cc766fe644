/- Walks of sha.hexValue and sha.Unhex. -/
import Derived.Test.YtdjppgmaokcgiaaGreatDoorHexP
namespace Go.Proofs.YtdjppgmaokcgiaaGreatDoor
open Go.RowKit

set_option maxHeartbeats 400000 in
theorem hexValue_any (x : UInt8) (w : World) :
    Calls Tryz.prog 74 #[.int .u8 (x.toNat : Int)] w fun e w' => e = .returned (.tuple #[.int .u8 (hvN x : Int), .bool (hvB x)]) ∧ w = w' := by
  have hx := x.toNat_lt
  by_cases h1 : 48 ≤ x.toNat ∧ x.toNat ≤ 57
  · have e1 : (hvN x : Int) = (x.toNat : Int) - 48 := by unfold hvN; rw [if_pos h1]; omega
    have e2 : hvB x = true := by unfold hvB; simp; omega
    rw [e1, e2]
    clear e1 e2
    obtain ⟨h2, h3⟩ := h1
    have a1 : (48 : Int) ≤ (x.toNat : Int) := by omega
    have a2 : (x.toNat : Int) ≤ 57 := by omega
    go_enter Tryz.func74, Tryz.ntmps74
    go_wp2
    go_ret2
    exact ⟨rfl, rfl⟩
  · by_cases h2 : 97 ≤ x.toNat ∧ x.toNat ≤ 102
    · have e1 : (hvN x : Int) = (x.toNat : Int) - 97 + 10 := by unfold hvN; rw [if_neg h1, if_pos h2]; omega
      have e2 : hvB x = true := by unfold hvB; simp; omega
      rw [e1, e2]
      clear e1 e2
      obtain ⟨h3, h4⟩ := h2
      have a0 : ¬ (x.toNat : Int) ≤ 57 := by omega
      have a1 : (97 : Int) ≤ (x.toNat : Int) := by omega
      have a2 : (x.toNat : Int) ≤ 102 := by omega
      have a3 : decide ((x.toNat : Int) ≤ 57) = false := by simp; omega
      clear h1
      go_enter Tryz.func74, Tryz.ntmps74
      go_wp2
      go_ret2
      exact ⟨rfl, rfl⟩
    · have e1 : (hvN x : Int) = 0 := by unfold hvN; rw [if_neg h1, if_neg h2]; rfl
      have e2 : hvB x = false := by unfold hvB; simp; omega
      rw [e1, e2]
      clear e1 e2
      go_enter Tryz.func74, Tryz.ntmps74
      go_wp2
      all_goals (go_ret2; exact ⟨rfl, rfl⟩)

def dgI (x : UInt8) : Int := if hvB x then (hvN x : Int) else -1
set_option maxHeartbeats 400000 in
theorem digit_any (x : UInt8) (w : World) :
    Calls Tryz.prog 68 #[.int .u8 (x.toNat : Int)] w fun e w' => e = .returned (.int .i64 (dgI x)) ∧ w = w' := by
  have hx := x.toNat_lt
  by_cases h1 : 48 ≤ x.toNat ∧ x.toNat ≤ 57
  · have e1 : dgI x = (x.toNat : Int) - 48 := by unfold dgI hvN hvB; rw [if_pos h1, if_pos (by simp; omega)]; omega
    rw [e1]
    clear e1
    obtain ⟨h2, h3⟩ := h1
    have a1 : (48 : Int) ≤ (x.toNat : Int) := by omega
    have a2 : (x.toNat : Int) ≤ 57 := by omega
    go_enter Tryz.func68, Tryz.ntmps68
    go_wp2
    go_ret
    exact ⟨rfl, rfl⟩
  · by_cases h2 : 97 ≤ x.toNat ∧ x.toNat ≤ 102
    · have e1 : dgI x = (x.toNat : Int) - 97 + 10 := by unfold dgI hvN hvB; rw [if_neg h1, if_pos h2, if_pos (by simp; omega)]; omega
      rw [e1]
      clear e1
      obtain ⟨h3, h4⟩ := h2
      have a0 : ¬ (x.toNat : Int) ≤ 57 := by omega
      have a1 : (97 : Int) ≤ (x.toNat : Int) := by omega
      have a2 : (x.toNat : Int) ≤ 102 := by omega
      have a3 : decide ((x.toNat : Int) ≤ 57) = false := by simp; omega
      clear h1
      go_enter Tryz.func68, Tryz.ntmps68
      go_wp2
      go_ret
      exact ⟨rfl, rfl⟩
    · have e1 : dgI x = -1 := by unfold dgI hvB; rw [if_neg (by simp; omega)]
      rw [e1]
      clear e1
      go_enter Tryz.func68, Tryz.ntmps68
      go_wp2
      all_goals (go_ret; exact ⟨rfl, rfl⟩)
end Go.Proofs.YtdjppgmaokcgiaaGreatDoor
