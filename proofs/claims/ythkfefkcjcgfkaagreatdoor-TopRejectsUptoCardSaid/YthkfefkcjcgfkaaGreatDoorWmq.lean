/- Sets of texts in order, who counts, on lists. No program is named. | Walks of the two Checks. | Walks of slices.Values, slices.AppendSeq, Collect and Sorted over it, at []string. | Walks of slices.Sorted over slices.Values, slices.Compact, quorum.Make. | Append of texts onto a row of texts; walks of the document's Rising and Make. | Walks of the document's Make, SameTexts, Same. | Walks of signed, Who, Enough. | Walks of Enough. | Walk of the document's Who. | Walk of the document's Enough. -/
import Derived.WalkLawsBesides
import Derived.Lib.SlicesCompact
import Derived.Deep.QuietTactic
import Derived.BigQuiet
import Derived.IntWalk
import Derived.RangeFuncNested
import Derived.RangeFuncBound
import Derived.RangeFuncCalls
import Derived.RangeFuncLeaves
import Derived.RangeFuncBox
import Derived.Maps.AppendAt
import Derived.Shelf.Abstract
import Derived.Shelf.AbstractIn
import Derived.Shelf.RegionOpen
import Derived.OwnWalkIn
import Derived.TacticsInMore
import Derived.LoopNIn
import Derived.LoopIn
import Derived.Deep.Upon
import Derived.Test.YthkfefkcjcgfkaaGreatDoorWrf
import Derived.Test.YthkfefkcjcgfkaaGreatDoorWk1
import Derived.Test.YthkfefkcjcgfkaaGreatDoorWl2
import Derived.Test.YthkfefkcjcgfkaaGreatDoorWtr
import Derived.Test.YthkfefkcjcgfkaaGreatDoorWkr
import Derived.Test.YthkfefkcjcgfkaaGreatDoorWa9
import Derived.Test.YthkfefkcjcgfkaaGreatDoorWop
import Derived.Test.YthkfefkcjcgfkaaGreatDoorWb0
import Derived.Test.YthkfefkcjcgfkaaGreatDoorWk2
set_option linter.all false
namespace Go.Proofs.YthkfefkcjcgfkaaGreatDoor
open Go Go.RowKit

/-- One text is ahead of another. -/
def bl (a b : ByteArray) : Bool := Op.bytesLess a.toList b.toList
theorem bytesLess_iff : ∀ a b : List UInt8, Op.bytesLess a b = decide (a < b)
  | _, [] => by simp [Op.bytesLess]
  | [], y :: s => by simp [Op.bytesLess]
  | x :: r, y :: s => by
    rw [Op.bytesLess, bytesLess_iff r s]
    by_cases h : x < y
    · simp [h, List.cons_lt_cons_iff]
    · by_cases he : x = y
      · simp [he]
      · simp [h, he, List.cons_lt_cons_iff]
theorem bl_iff (a b : ByteArray) : bl a b = true ↔ a.data.toList < b.data.toList := by
  rw [bl, bytesLess_iff, ByteArray.toList_eq, ByteArray.toList_eq]; simp
theorem ba_ext {a b : ByteArray} (h : a.data.toList = b.data.toList) : a = b := ByteArray.ext (Array.ext' h)
theorem bl_irrefl (a : ByteArray) : bl a a = false := by
  rw [Bool.eq_false_iff, ne_eq, bl_iff]; exact List.lt_irrefl _
theorem bl_trans {a b c : ByteArray} (h : bl a b = true) (k : bl b c = true) : bl a c = true := by
  rw [bl_iff] at *; exact List.lt_trans h k
theorem bl_asymm {a b : ByteArray} (h : bl a b = true) : bl b a = false := by
  rw [Bool.eq_false_iff]; intro k
  have := bl_trans h k
  rw [bl_irrefl] at this; cases this
theorem bl_tri {a b : ByteArray} (h : bl a b = false) (hne : a ≠ b) : bl b a = true := by
  rw [bl_iff]
  have h1 : ¬ a.data.toList < b.data.toList := fun k => by rw [(bl_iff a b).2 k] at h; cases h
  rcases List.le_iff_lt_or_eq.1 (List.not_lt.1 h1) with h2 | h2
  · exact h2
  · exact absurd (ba_ext h2).symm hne
theorem eq_toList (a b : ByteArray) : (a.toList == b.toList) = decide (a = b) := by
  rw [ByteArray.toList_eq, ByteArray.toList_eq, Bool.eq_iff_iff]
  simp only [beq_iff_eq, decide_eq_true_eq]
  exact ⟨ba_ext, fun h => by rw [h]⟩
/-! ### Good sets -/
def okAt (ids : List ByteArray) (i : Nat) : Bool := decide ((ids.getD i ByteArray.empty).size = 32) && (decide (i = 0) || bl (ids.getD (i - 1) ByteArray.empty) (ids.getD i ByteArray.empty))
def chkB (ids : List ByteArray) (need : Int) : Bool := decide (1 ≤ need) && (decide (need ≤ (ids.length : Int)) && (decide (ids.length ≤ 16) && (List.range ids.length).all (okAt ids)))
def chkE (ids : List ByteArray) (need : Int) : Int := if chkB ids need then 0 else 1
theorem chkB_iff (ids : List ByteArray) (need : Int) : chkB ids need = true ↔ 1 ≤ need ∧ need ≤ (ids.length : Int) ∧ ids.length ≤ 16 ∧ ∀ i, i < ids.length → okAt ids i = true := by
  simp [chkB]
theorem chk_no (ids : List ByteArray) (need : Int) (h : need < 1 ∨ (ids.length : Int) < need ∨ 16 < ids.length) : chkE ids need = 1 := by
  have : chkB ids need = false := by
    rw [Bool.eq_false_iff]; intro k
    rw [chkB_iff] at k
    omega
  rw [chkE, this]; rfl
theorem chk_bad (ids : List ByteArray) (need : Int) (i : Nat) (hi : i < ids.length) (h : okAt ids i = false) : chkE ids need = 1 := by
  have : chkB ids need = false := by
    rw [Bool.eq_false_iff]; intro k
    rw [((chkB_iff ids need).1 k).2.2.2 i hi] at h; cases h
  rw [chkE, this]; rfl
theorem chk_ok (ids : List ByteArray) (need : Int) (h1 : 1 ≤ need) (h2 : need ≤ (ids.length : Int)) (h3 : ids.length ≤ 16) (h : ∀ i, i < ids.length → okAt ids i = true) : chkE ids need = 0 := by
  rw [chkE, if_pos ((chkB_iff ids need).2 ⟨h1, h2, h3, h⟩)]
end Go.Proofs.YthkfefkcjcgfkaaGreatDoor

namespace Go.Proofs.YthkfefkcjcgfkaaGreatDoor
open Go Go.RowKit

theorem PartsAt.here {w w' : World} {v : Value} {ps : List ByteArray} (h : PartsAt w v ps) (hb : Below w.heap.size w w') : PartsAt w' v ps := by
  obtain ⟨a, cap, rfl, hh⟩ := h.ex
  refine ⟨a, cap, rfl, fun h0 => ?_⟩
  obtain ⟨blk, off, e, hl, hc⟩ := hh h0
  exact ⟨blk, off, e, Nat.lt_of_lt_of_le hl hb.size, fun i hi => (hb.cell (p := ⟨blk, off + i, none⟩) hl).trans (hc i hi)⟩
set_option maxHeartbeats 1600000 in
set_option maxRecDepth 100000 in
theorem check_some (blk off cap : Nat) (ids : List ByteArray) (need : Int) (w : World) (hlt : blk < w.heap.size) (hc : ∀ i, i < ids.length → w.cell? ⟨blk, off + i, none⟩ = some (.string (ids.getD i ByteArray.empty)))
    (hn1 : 1 ≤ need) (hn2 : need ≤ (ids.length : Int)) (hn3 : ids.length ≤ 16) :
    Calls Tryz.prog 135 #[.agg #[.slice (some ⟨blk, off, none⟩) ids.length cap, .int .i64 need]] w fun e w' => e = .returned (.int .i64 (chkE ids need)) ∧ Below w.heap.size w w' := by
  obtain ⟨L, hL⟩ : ∃ L, ids.length = L := ⟨_, rfl⟩
  have hbad := fun i => chk_bad ids need i
  have hok := chk_ok ids need hn1 hn2 hn3
  have hE : ∀ i, okAt ids i = (decide ((ids.getD i ByteArray.empty).size = 32) && (decide (i = 0) || bl (ids.getD (i - 1) ByteArray.empty) (ids.getD i ByteArray.empty))) := fun _ => rfl
  obtain ⟨E, hEE⟩ : ∃ E, chkE ids need = E := ⟨_, rfl⟩
  rw [hEE] at hbad hok ⊢
  rw [hL] at hc hn2 hn3 hbad hok ⊢
  have hg1 : ¬ need < 1 := by omega
  have hg2 : ¬ (L : Int) < need := by omega
  have hg3 : ¬ 16 < (L : Int) := by omega
  replace hbad := Box.mk hbad
  replace hok := Box.mk hok
  replace hc := Box.mk hc
  replace hE := Box.mk hE
  have hltB := Box.mk hlt
  clear hL hlt hEE
  go_enter Tryz.func135, Tryz.ntmps135
  go_wp2_with fail
  have hB0 : Box (Below w.heap.size w (w.alloc (.cells #[.slice (some ⟨blk, off, none⟩) L cap, .int .i64 need] 42))) := ⟨(Below.refl _ _).alloc (Nat.le_refl _) _⟩
  go_loopw [3, 4, 25] (fun _ _ q wr => ∃ i : Nat, i ≤ L ∧ q = .int .i64 (i : Int) ∧ Box (∀ j, j < i → okAt ids j = true) ∧ wr = w.alloc (.cells #[.slice (some ⟨blk, off, none⟩) L cap, .int .i64 need] 42)) (fun _ _ q _ => L - (intOf q).toNat)
  case atStart => exact ⟨0, by omega, rfl, ⟨fun j hj => by omega⟩, rfl⟩
  case round =>
    obtain ⟨i, hi, rfl, hA, rfl⟩ := hrel
    by_cases hlt : i < L
    · have hx := hc.out i hlt
      have hEi := hE.out i
      have hbadi := hbad.out i hlt
      obtain ⟨x, hxe⟩ : ∃ x, ids.getD i ByteArray.empty = x := ⟨_, rfl⟩
      rw [hxe] at hx hEi
      have hxw : (w.alloc (.cells #[.slice (some ⟨blk, off, none⟩) L cap, .int .i64 need] 42)).cell? ⟨blk, off + i, none⟩ = some (.string x) := (hB0.out.cell (p := ⟨blk, off + i, none⟩) hltB.out).trans hx
      replace hEi := Box.mk hEi
      replace hbadi := Box.mk hbadi
      have hAn : ∀ v, okAt ids i = v → v = true → ∀ j, j < i + 1 → okAt ids j = true := fun v e ev j hj => by
        by_cases e2 : j = i
        · subst e2; rw [e, ev]
        · exact hA.out j (by omega)
      replace hAn := Box.mk hAn
      clear hx hxe
      by_cases hs : x.size = 32
      · by_cases h0 : i = 0
        · subst h0
          rw [Nat.add_zero] at hxw
          go_wp2_with fail
          exact ⟨⟨1, by omega, rfl, ⟨hAn.out true (by rw [hEi.out]; simp [hs]) rfl⟩, trivial⟩, by simp [intOf]; omega⟩
        · have hy := hc.out (i - 1) (by omega)
          obtain ⟨y, hye⟩ : ∃ y, ids.getD (i - 1) ByteArray.empty = y := ⟨_, rfl⟩
          have hEi2 := hEi.out
          rw [hye] at hy hEi2
          have hyw : (w.alloc (.cells #[.slice (some ⟨blk, off, none⟩) L cap, .int .i64 need] 42)).cell? ⟨blk, off + (i - 1), none⟩ = some (.string y) := (hB0.out.cell (p := ⟨blk, off + (i - 1), none⟩) hltB.out).trans hy
          have hi1 : (((i : Int) - 1).toNat) = i - 1 := by omega
          have hi2 : 0 < (i : Int) := by omega
          have hble : bl y x = true → (Op.bytesLess x.toList y.toList || x.toList == y.toList) = false := fun hb => by
            have h1 : Op.bytesLess x.toList y.toList = false := bl_asymm hb
            rw [h1, eq_toList, Bool.false_or, decide_eq_false_iff_not]
            intro e
            rw [e, bl_irrefl] at hb; cases hb
          have hblt : bl y x = false → (Op.bytesLess x.toList y.toList || x.toList == y.toList) = true := fun hb => by
            rw [eq_toList]
            by_cases e : x = y
            · simp [e]
            · have h1 : Op.bytesLess x.toList y.toList = true := bl_tri hb (fun h => e h.symm)
              rw [h1, Bool.true_or]
          replace hEi2 := Box.mk hEi2
          replace hble := Box.mk hble
          replace hblt := Box.mk hblt
          clear hy hye
          by_cases hb : bl y x = true
          · have hcmp := hble.out hb
            have hEk : Box (okAt ids i = true) := ⟨by rw [hEi2.out]; simp [hs, hb]⟩
            clear hb
            go_wp2_with fail
            exact ⟨⟨i + 1, by omega, by go_num, ⟨hAn.out true hEk.out rfl⟩, trivial⟩, by simp [intOf]; omega⟩
          · have hcmp := hblt.out (by simpa using hb)
            have hEk : Box (okAt ids i = false) := ⟨by rw [hEi2.out]; simp [hb, h0]⟩
            clear hb
            go_wp2_with fail
            go_returns
            exact ⟨by rw [hbadi.out hEk.out]; rfl, hB0.out⟩
      · have hEk : Box (okAt ids i = false) := ⟨by rw [hEi.out]; simp [hs]⟩
        go_wp2_with fail
        go_returns
        exact ⟨by rw [hbadi.out hEk.out]; rfl, hB0.out⟩
    · obtain rfl : i = L := by omega
      have hokL : Box (E = 0) := ⟨hok.out hA.out⟩
      go_wp2_with fail
      go_returns
      exact ⟨by rw [hokL.out]; rfl, hB0.out⟩
set_option maxHeartbeats 1600000 in
theorem check_no (a : Option Addr) (cap L : Nat) (need : Int) (w : World) (hL : L ≤ maxLen) (h : need < 1 ∨ (L : Int) < need ∨ 16 < L) :
    Calls Tryz.prog 135 #[.agg #[.slice a L cap, .int .i64 need]] w fun e w' => e = .returned (.int .i64 1) ∧ Below w.heap.size w w' := by
  have hB0 : Box (Below w.heap.size w (w.alloc (.cells #[.slice a L cap, .int .i64 need] 42))) := ⟨(Below.refl _ _).alloc (Nat.le_refl _) _⟩
  unfold maxLen at hL
  by_cases h1 : need < 1
  · clear h
    go_enter Tryz.func135, Tryz.ntmps135
    go_wp2_with fail
    go_returns
    exact ⟨rfl, hB0.out⟩
  · by_cases h2 : (L : Int) < need
    · clear h
      go_enter Tryz.func135, Tryz.ntmps135
      go_wp2_with fail
      go_returns
      exact ⟨rfl, hB0.out⟩
    · have h3 : (16 : Int) < (L : Int) := by omega
      clear h
      go_enter Tryz.func135, Tryz.ntmps135
      go_wp2_with fail
      go_returns
      exact ⟨rfl, hB0.out⟩
theorem check_any (v : Value) (ids : List ByteArray) (need : Int) (w : World) (hv : PartsAt w v ids) (hm : ids.length ≤ maxLen) :
    Calls Tryz.prog 135 #[.agg #[v, .int .i64 need]] w fun e w' => e = .returned (.int .i64 (chkE ids need)) ∧ Below w.heap.size w w' := by
  obtain ⟨a, cap, rfl, hh⟩ := hv.ex
  by_cases h : need < 1 ∨ (ids.length : Int) < need ∨ 16 < ids.length
  · rw [chk_no ids need h]
    exact check_no a cap ids.length need w hm h
  · obtain ⟨blk, off, rfl, hlt, hc⟩ := hh (by omega)
    exact check_some blk off cap ids need w hlt hc (by omega) (by omega) (by omega)
end Go.Proofs.YthkfefkcjcgfkaaGreatDoor

namespace Go.Proofs.YthkfefkcjcgfkaaGreatDoor
open Go Go.RowKit Go.Sort Go.Shelf
attribute [local go_sem] Oper.semAt_some

end Go.Proofs.YthkfefkcjcgfkaaGreatDoor

namespace Go.Proofs.YthkfefkcjcgfkaaGreatDoor
open Go Go.RowKit Go.Sort Go.Shelf

theorem TxR.set {B b i : Nat} {w : World} {v : Value} {ids : List ByteArray} {cs : List Value} {t : TypeId} (h : TxR B w v ids) (hb : Blk w b cs t) (ht : t ≠ 9) (u : Value) : TxR B (w.setCell ⟨b, i, none⟩ u) v ids := by
  obtain ⟨hx, h0 | ⟨g, cap, cur, rfl, b1, hg, b2⟩⟩ := h
  · exact ⟨hx, .inl h0⟩
  · refine ⟨hx, .inr ⟨g, cap, cur, rfl, b1, ?_, b2⟩⟩
    have hne : g ≠ b := fun e => by
      unfold Blk at hb
      rw [← e, hg] at hb
      simp at hb
      exact ht hb.2.symm
    exact (Below.heap_setCell _ _ _ _ (by simpa using hne)).trans hg
end Go.Proofs.YthkfefkcjcgfkaaGreatDoor

namespace Go.Proofs.YthkfefkcjcgfkaaGreatDoor
open Go Go.RowKit

section
variable {w : World} {o : Oper} {a : Act} {Q : Exit → Act → World → Prop}
end
end Go.Proofs.YthkfefkcjcgfkaaGreatDoor

namespace Go.Proofs.YthkfefkcjcgfkaaGreatDoor
open Go Go.RowKit

end Go.Proofs.YthkfefkcjcgfkaaGreatDoor

namespace Go.Proofs.YthkfefkcjcgfkaaGreatDoor
open Go Go.RowKit Go.Shelf

def sigC (x : ByteArray × ByteArray) : List Value := [.string x.1, .string x.2]
end Go.Proofs.YthkfefkcjcgfkaaGreatDoor

namespace Go.Proofs.YthkfefkcjcgfkaaGreatDoor
open Go Go.RowKit

end Go.Proofs.YthkfefkcjcgfkaaGreatDoor

namespace Go.Proofs.YthkfefkcjcgfkaaGreatDoor
open Go Go.RowKit

theorem TxR.apart {B b : Nat} {w : World} {v : Value} {ids : List ByteArray} {cs : List Value} {t : TypeId} (h : TxR B w v ids) (hb : Blk w b cs t) (ht : t ≠ 9) : v.ownBlock ≠ some b := by
  intro e
  obtain ⟨hx, ⟨rfl, _⟩ | ⟨g, cap, cur, rfl, b1, hg, b2⟩⟩ := h
  · cases e
  · obtain rfl : g = b := by simpa [Value.ownBlock] using e
    unfold Blk at hb
    rw [hg] at hb
    simp at hb
    exact ht hb.2.symm
end Go.Proofs.YthkfefkcjcgfkaaGreatDoor

namespace Go.Proofs.YthkfefkcjcgfkaaGreatDoor
open Go Go.RowKit

end Go.Proofs.YthkfefkcjcgfkaaGreatDoor
