/- Rows of texts that are cut; walks of tree.Leaf, Node, cut and of the document's Leaf, Node, power. -/
import Derived.Test.YtdnhpldcnmbncaaDoorTrM
import Derived.Test.YtdnhpldcnmbncaaDoorQq
import Derived.Test.YtdnhpldcnmbncaaDoorKRow
namespace Go.Proofs.YtdnhpldcnmbncaaDoor
open Go Go.RowKit

theorem mono_bel {B : Nat} {w w1 w2 : World} (h : Below B w w1) (k : Below w1.heap.size w1 w2) (hB : B ≤ w.heap.size) : Below B w w2 := h.trans (k.mono (Nat.le_trans hB h.size))
theorem dB (w : World) : Below w.heap.size w w.drew := Drawn.below ⟨1, rfl⟩
theorem bel_alloc (w : World) (o : Obj) : Below w.heap.size w (w.alloc o) := (Below.refl _ _).alloc (Nat.le_refl _) _
/-- A new row of texts is a slice of them. -/
theorem parts_new (w : World) (ps : List ByteArray) (t : TypeId) : PartsAt (w.alloc (.cells (ps.map Value.string).toArray t)) (.slice (some ⟨w.heap.size, 0, none⟩) ps.length ps.length) ps := by
  refine ⟨some ⟨w.heap.size, 0, none⟩, ps.length, rfl, fun h0 => ⟨w.heap.size, 0, rfl, by simp, fun i hi => ?_⟩⟩
  rw [cell_of_row _ _ _ _ _ _ (heap_alloc_new w _)]
  simp [List.getD, hi]
/-- A slice of these texts, with room behind it. -/
structure PA (w : World) (a : Option Addr) (n c : Nat) (l : List ByteArray) : Prop where
  len : l.length = n
  cap : n ≤ c
  top : c ≤ 9223372036854775807
  at_ : 0 < n → ∃ blk off, a = some ⟨blk, off, none⟩ ∧ blk < w.heap.size ∧ ∀ i, i < n → w.cell? ⟨blk, off + i, none⟩ = some (.string (l.getD i ByteArray.empty))
theorem PA.parts {w : World} {a : Option Addr} {n c : Nat} {l : List ByteArray} (h : PA w a n c l) : PartsAt w (.slice a n c) l := by
  refine ⟨a, c, by rw [h.len], fun h0 => ?_⟩
  rw [h.len] at h0 ⊢
  exact h.at_ h0
theorem PA.here {w w' : World} {a : Option Addr} {n c : Nat} {l : List ByteArray} (h : PA w a n c l) (hb : Below w.heap.size w w') : PA w' a n c l :=
  ⟨h.len, h.cap, h.top, fun h0 => by
    obtain ⟨blk, off, rfl, hl, hc⟩ := h.at_ h0
    exact ⟨blk, off, rfl, Nat.lt_of_lt_of_le hl hb.size, fun i hi => by rw [hb.cell (p := ⟨blk, off + i, none⟩) hl]; exact hc i hi⟩⟩
theorem PA.take {w : World} {a : Option Addr} {n c k : Nat} {l : List ByteArray} (h : PA w a n c l) (hk : k ≤ n) : PA w a k c (l.take k) :=
  ⟨by simp [h.len]; omega, Nat.le_trans hk h.cap, h.top, fun h0 => by
    obtain ⟨blk, off, rfl, hl, hc⟩ := h.at_ (by omega)
    exact ⟨blk, off, rfl, hl, fun i hi => by rw [hc i (by omega)]; simp [List.getD, hi]⟩⟩
theorem PA.drop {w : World} {blk off n c k : Nat} {l : List ByteArray} (h : PA w (some ⟨blk, off, none⟩) n c l) (hk : k ≤ n) : PA w (some ⟨blk, off + k, none⟩) (n - k) (c - k) (l.drop k) :=
  ⟨by simp [h.len], by have := h.cap; omega, by have := h.top; omega, fun h0 => by
    obtain ⟨b2, o2, e, hl, hc⟩ := h.at_ (by omega)
    cases e
    exact ⟨blk, off + k, rfl, hl, fun i hi => by rw [Nat.add_assoc, hc (k + i) (by omega)]; simp [List.getD, List.getElem?_drop]⟩⟩

set_option maxHeartbeats 800000 in
set_option maxRecDepth 100000 in
theorem tleaf_any (s : ByteArray) (w : World) (hK : KIs w) (hs : s.size ≤ 140737488354000) :
    Calls Tryd.prog 30 #[.string s] w fun e w' => e = .returned (.string (leafH s)) ∧ Below w.heap.size w w' := by
  have hF := sum_parts (.slice (some ⟨w.heap.size, 0, none⟩) 2 2) [oneB 0, s] (w.alloc (.cells #[.string (oneB 0), .string s] 9)) (parts_new w [oneB 0, s] 9) (hK.below (bel_alloc _ _) hK.lt) (by rw [flat_leaf]; omega) (by simp)
  rw [show hashOf (flat [oneB 0, s]) = leafH s from rfl, show oneB 0 = ⟨#[0]⟩ from rfl] at hF
  have hB : Box (Below w.heap.size w (w.alloc (.cells #[.string ⟨#[0]⟩, .string s] 9))) := ⟨bel_alloc _ _⟩
  obtain ⟨y, hy⟩ : ∃ y, leafH s = y := ⟨_, rfl⟩
  rw [hy] at hF ⊢
  clear hK hy hs
  go_enter Tryd.func30, Tryd.ntmps30
  go_wp2_with fail
  refine hF.mono ?_
  rintro e w3 ⟨rfl, hb3⟩
  clear hF
  have hB3 : Box (Below w.heap.size w w3) := ⟨hB.out.trans (hb3.mono (by simp))⟩
  clear hb3
  go_wp2_with fail
  go_ret
  exact ⟨rfl, hB3.out⟩
set_option maxHeartbeats 800000 in
set_option maxRecDepth 100000 in
theorem tnode_any (l r : ByteArray) (w : World) (hK : KIs w) (hl : l.size ≤ 576460752303423488) (hr : r.size ≤ 70368744177664000) :
    Calls Tryd.prog 60 #[.string l, .string r] w fun e w' => e = .returned (.string (nodeH l r)) ∧ Below w.heap.size w w' := by
  have hF := sum_parts (.slice (some ⟨w.heap.size, 0, none⟩) 3 3) [oneB 1, l, r] (w.alloc (.cells #[.string (oneB 1), .string l, .string r] 9)) (parts_new w [oneB 1, l, r] 9) (hK.below (bel_alloc _ _) hK.lt) (by rw [flat_node]; omega) (by simp)
  rw [show hashOf (flat [oneB 1, l, r]) = nodeH l r from rfl, show oneB 1 = ⟨#[1]⟩ from rfl] at hF
  have hB : Box (Below w.heap.size w (w.alloc (.cells #[.string ⟨#[1]⟩, .string l, .string r] 9))) := ⟨bel_alloc _ _⟩
  obtain ⟨y, hy⟩ : ∃ y, nodeH l r = y := ⟨_, rfl⟩
  rw [hy] at hF ⊢
  clear hK hy hl hr
  go_enter Tryd.func60, Tryd.ntmps60
  go_wp2_with fail
  refine hF.mono ?_
  rintro e w3 ⟨rfl, hb3⟩
  clear hF
  have hB3 : Box (Below w.heap.size w w3) := ⟨hB.out.trans (hb3.mono (by simp))⟩
  clear hb3
  go_wp2_with fail
  go_ret
  exact ⟨rfl, hB3.out⟩
set_option maxHeartbeats 800000 in
set_option maxRecDepth 100000 in
theorem rleaf_any (s : ByteArray) (w : World) (hs : s.size ≤ 140737488354000) :
    Calls Tryd.prog 35 #[.string s] w fun e w' => e = .returned (.string (leafH s)) ∧ Below w.heap.size w w' := by
  have hF := rsum_parts (.slice (some ⟨w.heap.size, 0, none⟩) 2 2) [oneB 0, s] (w.alloc (.cells #[.string (oneB 0), .string s] 9)) (parts_new w [oneB 0, s] 9) (by rw [flat_leaf]; omega) (by simp)
  rw [show hashOf (flat [oneB 0, s]) = leafH s from rfl, show oneB 0 = ⟨#[0]⟩ from rfl] at hF
  have hB : Box (Below w.heap.size w (w.alloc (.cells #[.string ⟨#[0]⟩, .string s] 9))) := ⟨bel_alloc _ _⟩
  obtain ⟨y, hy⟩ : ∃ y, leafH s = y := ⟨_, rfl⟩
  rw [hy] at hF ⊢
  clear hy hs
  go_enter Tryd.func35, Tryd.ntmps35
  go_wp2_with fail
  refine hF.mono ?_
  rintro e w3 ⟨rfl, hb3⟩
  clear hF
  have hB3 : Box (Below w.heap.size w w3) := ⟨hB.out.trans (hb3.mono (by simp))⟩
  clear hb3
  go_wp2_with fail
  go_ret
  exact ⟨rfl, hB3.out⟩
set_option maxHeartbeats 800000 in
set_option maxRecDepth 100000 in
theorem rnode_any (l r : ByteArray) (w : World) (hl : l.size ≤ 70000000000000) (hr : r.size ≤ 70000000000000) :
    Calls Tryd.prog 63 #[.string l, .string r] w fun e w' => e = .returned (.string (nodeH l r)) ∧ Below w.heap.size w w' := by
  have hF := rsum_parts (.slice (some ⟨w.heap.size, 0, none⟩) 3 3) [oneB 1, l, r] (w.alloc (.cells #[.string (oneB 1), .string l, .string r] 9)) (parts_new w [oneB 1, l, r] 9) (by rw [flat_node]; omega) (by simp)
  rw [show hashOf (flat [oneB 1, l, r]) = nodeH l r from rfl, show oneB 1 = ⟨#[1]⟩ from rfl] at hF
  have hB : Box (Below w.heap.size w (w.alloc (.cells #[.string ⟨#[1]⟩, .string l, .string r] 9))) := ⟨bel_alloc _ _⟩
  obtain ⟨y, hy⟩ : ∃ y, nodeH l r = y := ⟨_, rfl⟩
  rw [hy] at hF ⊢
  clear hy hl hr
  go_enter Tryd.func63, Tryd.ntmps63
  go_wp2_with fail
  refine hF.mono ?_
  rintro e w3 ⟨rfl, hb3⟩
  clear hF
  have hB3 : Box (Below w.heap.size w w3) := ⟨hB.out.trans (hb3.mono (by simp))⟩
  clear hb3
  go_wp2_with fail
  go_ret
  exact ⟨rfl, hB3.out⟩
end Go.Proofs.YtdnhpldcnmbncaaDoor
