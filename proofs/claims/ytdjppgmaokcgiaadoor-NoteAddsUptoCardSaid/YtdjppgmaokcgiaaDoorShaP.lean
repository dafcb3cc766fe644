/- Plain facts: what a digest holds of a text. -/
import Derived.Test.YtdjppgmaokcgiaaDoorCs
namespace Go.Proofs.YtdjppgmaokcgiaaDoor
open Go.RowKit

def first : S8 := ⟨0x6a09e667, 0xbb67ae85, 0x3c6ef372, 0xa54ff53a, 0x510e527f, 0x9b05688c, 0x1f83d9ab, 0x5be0cd19⟩
def blockAt (m : List UInt8) (k : Nat) : List UInt8 := (m.drop (64 * k)).take 64
def stateAt (m : List UInt8) : Nat → S8
  | 0 => first
  | k + 1 => comp (blockAt m k) (stateAt m k)
theorem blockAt_append (m s : List UInt8) (k : Nat) (h : 64 * (k + 1) ≤ m.length) : blockAt (m ++ s) k = blockAt m k := by
  unfold blockAt
  rw [List.drop_append_of_le_length (by omega), List.take_append_of_le_length (by rw [List.length_drop]; omega)]
theorem stateAt_append (m s : List UInt8) : ∀ k, 64 * k ≤ m.length → stateAt (m ++ s) k = stateAt m k
  | 0, _ => rfl
  | k + 1, h => by rw [stateAt, stateAt, blockAt_append m s k h, stateAt_append m s k (by omega)]

theorem dcells_first (st : S8) (bl : List UInt8) (n : Nat) : spl (dcells st bl n) 0 (first8.map fun x => Value.int .u32 (U x)) = dcells first bl n := rfl
theorem spl_take (bl : List UInt8) (u : Nat) (s : List UInt8) (h : bl.length = 64) (hu : u + s.length ≤ 64) : (spl bl u s).take (u + s.length) = bl.take u ++ s := by
  rw [spl, ← List.append_assoc, List.take_append_of_le_length (by simp; omega), List.take_of_length_le (by simp; omega)]
theorem data_len (r : ByteArray) : r.data.toList.length = r.size := by rw [Array.length_toList]; rfl
/-- What is left of a text behind its first n bytes. -/
theorem rest_data (r : ByteArray) (n : Nat) : (r.extract n r.size).data.toList = r.data.toList.drop n := by
  rw [ByteArray.data_extract, Array.toList_extract, List.extract_eq_take_drop]
  rw [List.take_of_length_le (by rw [List.length_drop, data_len]; omega)]
theorem rest_size (r : ByteArray) (n : Nat) (h : n ≤ r.size) : (r.extract n r.size).size = r.size - n := by
  rw [ByteArray.size_extract]; omega
theorem take_len (r : ByteArray) (n : Nat) (h : n ≤ r.size) : (r.data.toList.take n).length = n := by
  rw [List.length_take, data_len]; omega
theorem goes_on {c m : List UInt8} {r : ByteArray} {n : Nat} (h : c ++ r.data.toList = m) : (c ++ r.data.toList.take n) ++ (r.extract n r.size).data.toList = m := by
  rw [rest_data, List.append_assoc, List.take_append_drop]; exact h
theorem min_part {r u n : Nat} (h : Nat.min r (64 - u) = n) (hu : u < 64) (h0 : 0 < r) : r - n < r ∧ n ≤ r ∧ u + n ≤ 64 := by
  rcases Nat.le_total r (64 - u) with h1 | h1
  · have : Nat.min r (64 - u) = r := Nat.min_eq_left h1
    omega
  · have : Nat.min r (64 - u) = 64 - u := Nat.min_eq_right h1
    omega
end Go.Proofs.YtdjppgmaokcgiaaDoor
