/- Walk of tree.grow. | Walk of tree.Consistent. -/
import Derived.Test.YtlkopllpadhnlaaDoorMTc
namespace Go.Proofs.YtlkopllpadhnlaaDoor
open Go Go.RowKit

/-- What grow answers. -/
def Grown (w : World) (m n : Nat) (whole : Bool) (old : ByteArray) (ps : List ByteArray) (e : Ending) (w' : World) : Prop :=
  ∃ x y b, e = .returned (.tuple #[.agg #[.string x, .string y], .bool b]) ∧ b = decide (ps.length = wants m n whole) ∧ (ps.length = wants m n whole → (x, y) = outOf m n whole old ps) ∧ x.size ≤ 70000000000000 ∧ y.size ≤ 70000000000000 ∧ Below w.heap.size w w'
theorem grow_left {m n k p : Nat} {whole : Bool} {old x y z : ByteArray} {ps : List ByteArray} {b : Bool} (hl : ps.length = p) (hp : 0 < p) (hz : ps.getD (p - 1) ByteArray.empty = z) (hk : cutN n = k) (hn : 2 ≤ n) (hm : m ≠ n) (hmk : m ≤ k)
    (hb : b = decide ((ps.take (p - 1)).length = wants m k whole)) (hg : (ps.take (p - 1)).length = wants m k whole → (x, y) = outOf m k whole old (ps.take (p - 1))) :
    (b = decide (ps.length = wants m n whole)) ∧ (ps.length = wants m n whole → (x, nodeH y z) = outOf m n whole old ps) := by
  subst hk
  have h1 : (ps.take (p - 1)).length = p - 1 := by simp; omega
  have hw := wants_left m n whole hn hm hmk
  refine ⟨by rw [hb, h1, hl, hw]; congr 1; apply propext; omega, fun h => ?_⟩
  rw [split_last ps p hl hp, outOf_left m n whole old _ _ hn hm hmk (by rw [h1]; omega), ← hg (by rw [h1]; omega), hz]
theorem grow_right {m n k p : Nat} {whole : Bool} {old x y z : ByteArray} {ps : List ByteArray} {b : Bool} (hl : ps.length = p) (hp : 0 < p) (hz : ps.getD (p - 1) ByteArray.empty = z) (hk : cutN n = k) (hn : 2 ≤ n) (hm : m ≠ n) (hmk : k < m)
    (hb : b = decide ((ps.take (p - 1)).length = wants (m - k) (n - k) false)) (hg : (ps.take (p - 1)).length = wants (m - k) (n - k) false → (x, y) = outOf (m - k) (n - k) false old (ps.take (p - 1))) :
    (b = decide (ps.length = wants m n whole)) ∧ (ps.length = wants m n whole → (nodeH z x, nodeH z y) = outOf m n whole old ps) := by
  subst hk
  have h1 : (ps.take (p - 1)).length = p - 1 := by simp; omega
  have hw := wants_right m n whole hn hm hmk
  refine ⟨by rw [hb, h1, hl, hw]; congr 1; apply propext; omega, fun h => ?_⟩
  rw [split_last ps p hl hp, outOf_right m n whole old _ _ hn hm hmk (by rw [h1]; omega), ← hg (by rw [h1]; omega), hz]
theorem wants_pos (m n : Nat) (whole : Bool) (h : m ≠ n ∨ whole = false) (hn : m ≤ n) (hm : 0 < m) : wants m n whole ≠ 0 := by
  by_cases hmn : m = n
  · subst hmn
    rcases h with h | h
    · exact absurd rfl h
    · rw [wants_all, h]; simp
  · by_cases hk : m ≤ cutN n
    · rw [wants_left m n whole (by omega) hmn hk]; omega
    · rw [wants_right m n whole (by omega) hmn (by omega)]; omega
def rootsC (x y : ByteArray) : List Value := [.string x, .string y]
end Go.Proofs.YtlkopllpadhnlaaDoor

namespace Go.Proofs.YtlkopllpadhnlaaDoor
open Go Go.RowKit

/-- What Consistent answers. -/
def cosB (m n : Nat) (ps : List ByteArray) (old root : ByteArray) : Bool :=
  if m = n then decide (ps.length = 0 ∧ old = root) else if m = 0 then decide (ps.length = 0 ∧ old = noneH) else decide (ps.length = wants m n true ∧ outOf m n true old ps = (old, root))
def cosE (m n : Int) (ps : List ByteArray) (old root : ByteArray) : Int := if 0 ≤ m ∧ m ≤ n then errB (cosB m.toNat n.toNat ps old root) else 1
end Go.Proofs.YtlkopllpadhnlaaDoor
