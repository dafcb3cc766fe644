/- Walks of tree.split, proven, climb, Included. | Walks of tree.Included and of the document's up. | Walk of the document's Included. -/
import Derived.Test.YtlkopllpadhnlaaDoorMTb
namespace Go.Proofs.YtlkopllpadhnlaaDoor
open Go Go.RowKit

theorem PA.cell {w : World} {a : Option Addr} {n c : Nat} {l : List ByteArray} (h : PA w a n c l) (i : Nat) (hi : i < n) : ∃ blk off, a = some ⟨blk, off, none⟩ ∧ blk < w.heap.size ∧ w.cell? ⟨blk, off + i, none⟩ = some (.string (l.getD i ByteArray.empty)) := by
  obtain ⟨blk, off, rfl, hl, hc⟩ := h.at_ (by omega)
  exact ⟨blk, off, rfl, hl, hc i hi⟩
theorem split_last (ps : List ByteArray) (n : Nat) (hn : ps.length = n) (h0 : 0 < n) : ps = ps.take (n - 1) ++ [ps.getD (n - 1) ByteArray.empty] := by
  have h := List.take_append_drop (n - 1) ps
  conv => lhs; rw [← h]
  congr 1
  rw [List.drop_eq_getElem_cons (by omega), List.drop_eq_nil_of_le (by omega)]
  simp [List.getD, show n - 1 < ps.length by omega]
/-- What a check answers. -/
def errB (b : Bool) : Int := if b then 0 else 11
/-- What climb answers. -/
def Climbed (w : World) (h : ByteArray) (bs : List Bool) (ps : List ByteArray) (e : Ending) (w' : World) : Prop :=
  ∃ g b, e = .returned (.tuple #[.string g, .bool b]) ∧ (b = decide (ps.length = bs.length)) ∧ (ps.length = bs.length → g = goUp h bs ps) ∧ g.size ≤ 70000000000000 ∧ Below w.heap.size w w'
theorem climb_left {n i k p : Nat} {leaf x g : ByteArray} {ps : List ByteArray} {b : Bool} (hl : ps.length = p) (hp : 0 < p) (hx : ps.getD (p - 1) ByteArray.empty = x) (hs : sides i n = sides i k ++ [true])
    (hb : b = decide ((ps.take (p - 1)).length = (sides i k).length)) (hg : (ps.take (p - 1)).length = (sides i k).length → g = goUp leaf (sides i k) (ps.take (p - 1))) :
    (b = decide (ps.length = (sides i n).length)) ∧ (ps.length = (sides i n).length → nodeH g x = goUp leaf (sides i n) ps) := by
  have h1 : (ps.take (p - 1)).length = p - 1 := by simp; omega
  rw [h1] at hb hg
  rw [hs, List.length_append, List.length_singleton, hl]
  refine ⟨by rw [hb]; congr 1; apply propext; omega, fun h => ?_⟩
  rw [split_last ps p hl hp, goUp_snoc _ _ _ _ _ (by rw [h1]; omega), if_pos rfl, ← hg (by omega), hx]
theorem climb_right {n i m j p : Nat} {leaf x g : ByteArray} {ps : List ByteArray} {b : Bool} (hl : ps.length = p) (hp : 0 < p) (hx : ps.getD (p - 1) ByteArray.empty = x) (hs : sides i n = sides j m ++ [false])
    (hb : b = decide ((ps.take (p - 1)).length = (sides j m).length)) (hg : (ps.take (p - 1)).length = (sides j m).length → g = goUp leaf (sides j m) (ps.take (p - 1))) :
    (b = decide (ps.length = (sides i n).length)) ∧ (ps.length = (sides i n).length → nodeH x g = goUp leaf (sides i n) ps) := by
  have h1 : (ps.take (p - 1)).length = p - 1 := by simp; omega
  rw [h1] at hb hg
  rw [hs, List.length_append, List.length_singleton, hl]
  refine ⟨by rw [hb]; congr 1; apply propext; omega, fun h => ?_⟩
  rw [split_last ps p hl hp, goUp_snoc _ _ _ _ _ (by rw [h1]; omega), if_neg (by simp), ← hg (by omega), hx]
end Go.Proofs.YtlkopllpadhnlaaDoor

namespace Go.Proofs.YtlkopllpadhnlaaDoor
open Go Go.RowKit

/-- What the document's up answers. -/
def Upped (w : World) (h : ByteArray) (bs : List Bool) (ps : List ByteArray) (e : Ending) (w' : World) : Prop :=
  ∃ g a m c b, e = .returned (.tuple #[.string g, .slice a m c, .bool b]) ∧ b = decide (bs.length ≤ ps.length) ∧ (b = true → g = goUp h bs (ps.take bs.length)) ∧ PA w' a m c (if b then ps.drop bs.length else []) ∧ g.size ≤ 70000000000000 ∧ Below w.heap.size w w'
theorem pa_nil (w : World) : PA w none 0 0 [] := ⟨rfl, Nat.le_refl _, by omega, fun h => absurd h (Nat.lt_irrefl 0)⟩
theorem pa_none (w : World) (a : Option Addr) : PA w a 0 0 [] := ⟨rfl, Nat.le_refl _, by omega, fun h => absurd h (Nat.lt_irrefl 0)⟩
theorem up_step (leaf : ByteArray) (bs : List Bool) (d : Bool) (ps : List ByteArray) (h : bs.length < ps.length) :
    goUp leaf (bs ++ [d]) (ps.take (bs ++ [d]).length) = if d then nodeH (goUp leaf bs (ps.take bs.length)) ((ps.drop bs.length).getD 0 ByteArray.empty) else nodeH ((ps.drop bs.length).getD 0 ByteArray.empty) (goUp leaf bs (ps.take bs.length)) := by
  rw [List.length_append, List.length_singleton, List.take_succ_eq_append_getElem h, goUp_snoc _ _ _ _ _ (by simp; omega)]
  have : (ps.drop bs.length).getD 0 ByteArray.empty = ps[bs.length] := by simp [List.getD, h]
  rw [this]
/-- What Included answers. -/
def incdE (leaf : ByteArray) (i n : Int) (ps : List ByteArray) (root : ByteArray) : Int :=
  if 0 ≤ i ∧ i < n then errB (decide (ps.length = (sides i.toNat n.toNat).length ∧ goUp leaf (sides i.toNat n.toNat) ps = root)) else 1
theorem ba_ext {a b : ByteArray} (h : a.data.toList = b.data.toList) : a = b := ByteArray.ext (Array.ext' h)
theorem eq_toList (a b : ByteArray) : (a.toList == b.toList) = decide (a = b) := by
  rw [ByteArray.toList_eq, ByteArray.toList_eq, Bool.eq_iff_iff]
  simp only [beq_iff_eq, decide_eq_true_eq]
  exact ⟨ba_ext, fun h => by rw [h]⟩
end Go.Proofs.YtlkopllpadhnlaaDoor

namespace Go.Proofs.YtlkopllpadhnlaaDoor
open Go Go.RowKit

end Go.Proofs.YtlkopllpadhnlaaDoor
