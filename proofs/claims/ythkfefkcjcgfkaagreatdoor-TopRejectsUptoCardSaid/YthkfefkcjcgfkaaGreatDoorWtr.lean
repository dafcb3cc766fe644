/- Trees of hashes, on lists: the root, the proofs, and what comes out of a proof. | Rows of texts that are cut; walks of tree.Leaf, Node, cut and of the document's Leaf, Node, power. | Rows of texts that are made and appended to. -/
import Derived.Laws.MathBits
import Derived.Deep.Upon
import Derived.SliceStrings
import Derived.SizedLaws
import Derived.OpenShut
import Derived.ChangeMaps5
import Derived.Test.YthkfefkcjcgfkaaGreatDoorWre
import Derived.Test.YthkfefkcjcgfkaaGreatDoorWb5
import Derived.Test.YthkfefkcjcgfkaaGreatDoorWb0
import Derived.Test.YthkfefkcjcgfkaaGreatDoorWkr
import Derived.Test.YthkfefkcjcgfkaaGreatDoorWa8
set_option linter.all false
namespace Go.Proofs.YthkfefkcjcgfkaaGreatDoor
open Go Go.RowKit

def oneB (b : UInt8) : ByteArray := ⟨#[b]⟩
def noneH : ByteArray := hashOf (flat [])
def nodeH (l r : ByteArray) : ByteArray := hashOf (flat [oneB 1, l, r])
theorem nodeH_size (l r : ByteArray) : (nodeH l r).size = 32 := hash_size _
theorem noneH_size : noneH.size = 32 := hash_size _
/-- The greatest power of two below n (n above 1). -/
def cutN (n : Nat) : Nat := 2 ^ (n - 1).log2
theorem cutN_pos (n : Nat) : 0 < cutN n := Nat.two_pow_pos _
theorem cutN_lt {n : Nat} (h : 2 ≤ n) : cutN n < n := by
  have := Nat.log2_self_le (n := n - 1) (by omega)
  unfold cutN; omega
def rootL (l : List ByteArray) : ByteArray :=
  if _h : l.length ≤ 1 then l.getD 0 noneH else nodeH (rootL (l.take (cutN l.length))) (rootL (l.drop (cutN l.length)))
termination_by l.length
decreasing_by
  · have := cutN_lt (n := l.length) (by omega); simp; omega
  · have := cutN_pos l.length; simp; omega
theorem rootL_nil : rootL [] = noneH := by rw [rootL]; rfl
theorem rootL_one (x : ByteArray) : rootL [x] = x := by rw [rootL]; rfl
theorem rootL_cut (l : List ByteArray) (h : 2 ≤ l.length) : rootL l = nodeH (rootL (l.take (cutN l.length))) (rootL (l.drop (cutN l.length))) := by
  conv => lhs; rw [rootL]
  rw [dif_neg (by omega)]
/-- Texts that a machine can put together. -/
def Fit (l : List ByteArray) : Prop := ∀ x ∈ l, x.size ≤ 70000000000000
theorem Fit.take {l : List ByteArray} (h : Fit l) (k : Nat) : Fit (l.take k) := fun x hx => h x (List.mem_of_mem_take hx)
theorem Fit.drop {l : List ByteArray} (h : Fit l) (k : Nat) : Fit (l.drop k) := fun x hx => h x (List.mem_of_mem_drop hx)
theorem root_size (l : List ByteArray) (h : Fit l) : (rootL l).size ≤ 70000000000000 := by
  by_cases h2 : 2 ≤ l.length
  · rw [rootL_cut l h2, nodeH_size]; decide
  · match l with
    | [] => rw [rootL_nil, noneH_size]; decide
    | [x] => rw [rootL_one]; exact h x (by simp)
    | _ :: _ :: _ => simp at h2
theorem flat_node (l r : ByteArray) : (flat [oneB 1, l, r]).length = 1 + l.size + r.size := by
  simp only [flat, List.flatMap_cons, List.flatMap_nil, List.append_nil, List.length_append, data_len, oneB]
  rw [← Nat.add_assoc]; rfl

end Go.Proofs.YthkfefkcjcgfkaaGreatDoor

namespace Go.Proofs.YthkfefkcjcgfkaaGreatDoor
open Go Go.RowKit

theorem mono_bel {B : Nat} {w w1 w2 : World} (h : Below B w w1) (k : Below w1.heap.size w1 w2) (hB : B ≤ w.heap.size) : Below B w w2 := h.trans (k.mono (Nat.le_trans hB h.size))
theorem dB (w : World) : Below w.heap.size w w.drew := Drawn.below ⟨1, rfl⟩
theorem bel_alloc (w : World) (o : Obj) : Below w.heap.size w (w.alloc o) := (Below.refl _ _).alloc (Nat.le_refl _) _
/-- A new row of texts is a slice of them. -/
theorem parts_new (w : World) (ps : List ByteArray) (t : TypeId) : PartsAt (w.alloc (.cells (ps.map Value.string).toArray t)) (.slice (some ⟨w.heap.size, 0, none⟩) ps.length ps.length) ps := by
  refine ⟨some ⟨w.heap.size, 0, none⟩, ps.length, rfl, fun h0 => ⟨w.heap.size, 0, rfl, by simp, fun i hi => ?_⟩⟩
  rw [cell_of_row _ _ _ _ _ _ (heap_alloc_new w _)]
  simp [List.getD, hi]
/-- A slice of these texts, with room behind it. -/
structure PA (w : World) (a : Option Addr) (n c : Nat) (l : List ByteArray) : Prop where
  len : l.length = n
  cap : n ≤ c
  top : c ≤ 9223372036854775807
  at_ : 0 < n → ∃ blk off, a = some ⟨blk, off, none⟩ ∧ blk < w.heap.size ∧ ∀ i, i < n → w.cell? ⟨blk, off + i, none⟩ = some (.string (l.getD i ByteArray.empty))
theorem PA.here {w w' : World} {a : Option Addr} {n c : Nat} {l : List ByteArray} (h : PA w a n c l) (hb : Below w.heap.size w w') : PA w' a n c l :=
  ⟨h.len, h.cap, h.top, fun h0 => by
    obtain ⟨blk, off, rfl, hl, hc⟩ := h.at_ h0
    exact ⟨blk, off, rfl, Nat.lt_of_lt_of_le hl hb.size, fun i hi => by rw [hb.cell (p := ⟨blk, off + i, none⟩) hl]; exact hc i hi⟩⟩
theorem PA.take {w : World} {a : Option Addr} {n c k : Nat} {l : List ByteArray} (h : PA w a n c l) (hk : k ≤ n) : PA w a k c (l.take k) :=
  ⟨by simp [h.len]; omega, Nat.le_trans hk h.cap, h.top, fun h0 => by
    obtain ⟨blk, off, rfl, hl, hc⟩ := h.at_ (by omega)
    exact ⟨blk, off, rfl, hl, fun i hi => by rw [hc i (by omega)]; simp [List.getD, hi]⟩⟩
theorem PA.drop {w : World} {blk off n c k : Nat} {l : List ByteArray} (h : PA w (some ⟨blk, off, none⟩) n c l) (hk : k ≤ n) : PA w (some ⟨blk, off + k, none⟩) (n - k) (c - k) (l.drop k) :=
  ⟨by simp [h.len], by have := h.cap; omega, by have := h.top; omega, fun h0 => by
    obtain ⟨b2, o2, e, hl, hc⟩ := h.at_ (by omega)
    cases e
    exact ⟨blk, off + k, rfl, hl, fun i hi => by rw [Nat.add_assoc, hc (k + i) (by omega)]; simp [List.getD, List.getElem?_drop]⟩⟩

set_option maxHeartbeats 800000 in
set_option maxRecDepth 100000 in
theorem tnode_any (l r : ByteArray) (w : World) (hK : KIs w) (hl : l.size ≤ 576460752303423488) (hr : r.size ≤ 70368744177664000) :
    Calls Tryz.prog 134 #[.string l, .string r] w fun e w' => e = .returned (.string (nodeH l r)) ∧ Below w.heap.size w w' := by
  have hF := sum_parts (.slice (some ⟨w.heap.size, 0, none⟩) 3 3) [oneB 1, l, r] (w.alloc (.cells #[.string (oneB 1), .string l, .string r] 9)) (parts_new w [oneB 1, l, r] 9) (hK.below (bel_alloc _ _) hK.lt) (by rw [flat_node]; omega) (by simp)
  rw [show hashOf (flat [oneB 1, l, r]) = nodeH l r from rfl, show oneB 1 = ⟨#[1]⟩ from rfl] at hF
  have hB : Box (Below w.heap.size w (w.alloc (.cells #[.string ⟨#[1]⟩, .string l, .string r] 9))) := ⟨bel_alloc _ _⟩
  obtain ⟨y, hy⟩ : ∃ y, nodeH l r = y := ⟨_, rfl⟩
  rw [hy] at hF ⊢
  clear hK hy hl hr
  go_enter Tryz.func134, Tryz.ntmps134
  go_wp2_with fail
  refine hF.mono ?_
  rintro e w3 ⟨rfl, hb3⟩
  clear hF
  have hB3 : Box (Below w.heap.size w w3) := ⟨hB.out.trans (hb3.mono (by simp))⟩
  clear hb3
  go_wp2_with fail
  go_ret
  exact ⟨rfl, hB3.out⟩
end Go.Proofs.YthkfefkcjcgfkaaGreatDoor

namespace Go.Proofs.YthkfefkcjcgfkaaGreatDoor
open Go Go.RowKit

theorem info_s : (Tryz.prog.info? 9).map (fun i => (i.zero, i.size, i.bytes)) = some (some (.string ⟨#[]⟩), 1, 16) := by kernel_rfl
/-- v owns a row of these texts, in a block from B on. -/
def TxR (B : Nat) (w : World) (v : Value) (ids : List ByteArray) : Prop := w.ownsRow B 9 1 v ids.length (ids.map Value.string)
theorem TxR.shape {B : Nat} {w : World} {v : Value} {ids : List ByteArray} (h : TxR B w v ids) : ∃ a c, v = .slice a ids.length c := by
  obtain ⟨_, ⟨rfl, h0⟩ | ⟨g, cap, cur, rfl, _⟩⟩ := h
  · exact ⟨none, 0, by rw [h0]⟩
  · exact ⟨_, _, rfl⟩
theorem TxR.parts {B : Nat} {w : World} {v : Value} {ids : List ByteArray} (h : TxR B w v ids) : PartsAt w v ids := by
  have hh := h
  obtain ⟨hx, ⟨rfl, h0⟩ | ⟨g, cap, cur, rfl, b1, hg, b2⟩⟩ := h
  · obtain rfl : ids = [] := List.length_eq_zero_iff.1 h0
    exact ⟨none, 0, rfl, fun h => absurd h (Nat.lt_irrefl 0)⟩
  · refine ⟨_, cap, rfl, fun h0 => ⟨g, 0, rfl, (Array.getElem?_eq_some_iff.1 hg).1, fun i hi => ?_⟩⟩
    have := World.ownsRow.cells (g := g) hh rfl i (.string (ids.getD i ByteArray.empty)) (by simp [hi, List.getD])
    have hadd : (⟨g, 0, none⟩ : Addr).add i = ⟨g, 0 + i, none⟩ := by unfold Addr.add; split <;> simp_all
    rw [hadd] at this; exact this
theorem TxR.here {B : Nat} {w w' : World} {v : Value} {ids : List ByteArray} (h : TxR B w v ids) (hb : Below w.heap.size w w') : TxR B w' v ids := by
  obtain ⟨hx, h0 | ⟨g, cap, cur, rfl, b1, hg, b2⟩⟩ := h
  · exact ⟨hx, .inl h0⟩
  · exact ⟨hx, .inr ⟨g, cap, cur, rfl, b1, (hb.block g (Array.getElem?_eq_some_iff.1 hg).1).trans hg, b2⟩⟩
theorem TxR.base {B C : Nat} {w : World} {v : Value} {ids : List ByteArray} (h : TxR B w v ids) (hC : C ≤ B) : TxR C w v ids := by
  obtain ⟨hx, h0 | ⟨g, cap, cur, rfl, b1, hg, b2⟩⟩ := h
  · exact ⟨hx, .inl h0⟩
  · exact ⟨hx, .inr ⟨g, cap, cur, rfl, Nat.le_trans hC b1, hg, b2⟩⟩
theorem TxR.own {B : Nat} {w : World} {v : Value} {ids : List ByteArray} (h : TxR B w v ids) (k : Nat) (hk : v.ownBlock = some k) : B ≤ k ∧ k < w.heap.size := World.ownsRow.lt h k hk
theorem TxR.of_row {B : Nat} {w : World} {v : Value} {ids : List ByteArray} (h : Pk.Row w 9 1 v ids.length (ids.map Value.string)) (hB : ∀ k, v.ownBlock = some k → B ≤ k) : TxR B w v ids := by
  obtain ⟨hx, h0 | ⟨g, cap, cur, rfl, b1, b2⟩⟩ := h
  · exact ⟨hx, .inl h0⟩
  · exact ⟨hx, .inr ⟨g, cap, cur, rfl, hB g rfl, b2⟩⟩
section
variable {w : World} {o : Oper} {a : Act} {Q : Exit → Act → World → Prop}
end
theorem TxR.nil (B : Nat) (w : World) : TxR B w (.slice none 0 0) [] := World.ownsRow_nil _ _ _ _
theorem TxR.chg {S : Nat → Prop} {B : Nat} {w w' : World} {v : Value} {ids : List ByteArray} (h : TxR B w v ids) (hc : Pk.Chg S w w') (hn : ∀ k, v.ownBlock = some k → ¬ S k) : TxR B w' v ids := by
  obtain ⟨hx, h0 | ⟨g, cap, cur, rfl, b1, hg, b2⟩⟩ := h
  · exact ⟨hx, .inl h0⟩
  · exact ⟨hx, .inr ⟨g, cap, cur, rfl, b1, (hc.block g (Array.getElem?_eq_some_iff.1 hg).1 (hn g rfl)).trans hg, b2⟩⟩
end Go.Proofs.YthkfefkcjcgfkaaGreatDoor
