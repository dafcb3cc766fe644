/- Walks of the document's Sum and Tag over parts, and of sha.Tag. -/
import Derived.Test.YtdjppgmaokcgiaaGreatDoorRefC
import Derived.Test.YtdjppgmaokcgiaaGreatDoorShaH
import Derived.Lib.AppendStr
namespace Go.Proofs.YtdjppgmaokcgiaaGreatDoor
open Go.RowKit

/-- Append of a text to a row of bytes that the call owns. -/
theorem wpList_pushS {w w0 : World} {ops : Array Oper} {rest : List Oper} {o : Oper} {a : Act} {Q : Exit → Act → World → Prop} (hgd : o.guard = none) (s x : Operand)
    (ho : o.op = .call { callee := .builtin .append, args := #[s, x], argTypes := #[24, 9] }) (base : Nat) (v : Value) (l : List UInt8) (hs : a.eval s = v)
    (hO : Box (w.ownsRow base 5 1 v l.length (l.map yc))) (str : ByteArray) (hx : a.eval x = .string str)
    (hlen : l.length + str.size ≤ 140737488355328) (hbase : base ≤ w.heap.size) (hB : Box (Below base w0 w))
    (h : ∀ v' w', Box (w'.ownsRow base 5 1 v' (l ++ str.data.toList).length ((l ++ str.data.toList).map yc)) → Box (Below base w0 w') → wpList Tryz.prog ops Q rest (a.put o.dst v') w') : wpList Tryz.prog ops Q (o :: rest) a w := by
  obtain ⟨i0, hi, hz0, hz1, hz2⟩ := info_parts info5
  refine Lib.wpList_append_own_string _ hgd s x 24 9 ho base 5 i0 Tryz.underlying24 Tryz.underlying9 hi hz0 hz1 hz2 v l.length _ hs hO.out str hx (by unfold maxLen; omega) (by omega) hbase ?_
  intro v' w' h2 h3 _
  refine h v' w' ⟨?_⟩ ⟨hB.out.grown h3 hbase (fun k hk => (hO.out.lt k hk).1)⟩
  rw [List.length_append, data_len, List.map_append]; exact h2

theorem flat_len_take (ps : List ByteArray) (i : Nat) (h : i < ps.length) : (flat (ps.take i)).length ≤ (flat ps).length := by
  have := flat_part ps i h; omega

end Go.Proofs.YtdjppgmaokcgiaaGreatDoor
