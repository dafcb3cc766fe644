/- Walks of sha.Sum and sha.Tag over parts. -/
import Derived.Test.YtdjppgmaokcgiaaGreatDoorShaG
namespace Go.Proofs.YtdjppgmaokcgiaaGreatDoor
open Go.RowKit

/-- The bytes of all parts. -/
def flat (ps : List ByteArray) : List UInt8 := ps.flatMap fun s => s.data.toList
/-- A value that is a slice of these texts. -/
structure PartsAt (w : World) (v : Value) (ps : List ByteArray) : Prop where
  ex : ∃ (a : Option Addr) (cap : Nat), v = .slice a ps.length cap ∧ (0 < ps.length → ∃ blk off, a = some ⟨blk, off, none⟩ ∧ blk < w.heap.size ∧ ∀ i, i < ps.length → w.cell? ⟨blk, off + i, none⟩ = some (.string (ps.getD i ByteArray.empty)))
theorem flat_step (ps : List ByteArray) (i : Nat) (h : i < ps.length) : flat (ps.take i) ++ (ps.getD i ByteArray.empty).data.toList = flat (ps.take (i + 1)) := by
  rw [List.take_succ_eq_append_getElem h, flat, flat, List.flatMap_append]
  simp [List.getD, h]
theorem flat_part (ps : List ByteArray) (i : Nat) (h : i < ps.length) : (flat (ps.take i)).length + (ps.getD i ByteArray.empty).size ≤ (flat ps).length := by
  have h1 : (flat (ps.take (i + 1))).length ≤ (flat ps).length := by
    conv => rhs; rw [← List.take_append_drop (i + 1) ps, flat, List.flatMap_append, List.length_append]
    exact Nat.le_add_right _ _
  rw [← flat_step ps i h, List.length_append, data_len] at h1
  exact h1

end Go.Proofs.YtdjppgmaokcgiaaGreatDoor
