/- Sets of texts in order, who counts, on lists. No program is named. | Walks of the two Checks. | Walks of slices.Values, slices.AppendSeq, Collect and Sorted over it, at []string. | Walks of slices.Sorted over slices.Values, slices.Compact, quorum.Make. | Append of texts onto a row of texts; walks of the document's Rising and Make. | Walks of the document's Make, SameTexts, Same. | Walks of signed, Who, Enough. | Walks of Enough. | Walk of the document's Who. | Walk of the document's Enough. -/
import Derived.WalkLawsBesides
import Derived.Lib.SlicesCompact
import Derived.Deep.QuietTactic
import Derived.BigQuiet
import Derived.IntWalk
import Derived.RangeFuncNested
import Derived.RangeFuncBound
import Derived.RangeFuncCalls
import Derived.RangeFuncLeaves
import Derived.RangeFuncBox
import Derived.Maps.AppendAt
import Derived.Shelf.Abstract
import Derived.Shelf.AbstractIn
import Derived.Shelf.RegionOpen
import Derived.OwnWalkIn
import Derived.TacticsInMore
import Derived.LoopNIn
import Derived.LoopIn
import Derived.Deep.Upon
import Derived.Test.YtiblkfkeifnpaaaGreatDoorZre
import Derived.Test.YtiblkfkeifnpaaaGreatDoorZmk
import Derived.Test.YtiblkfkeifnpaaaGreatDoorZl1
import Derived.Test.YtiblkfkeifnpaaaGreatDoorZtr
import Derived.Test.YtiblkfkeifnpaaaGreatDoorZkr
import Derived.Test.YtiblkfkeifnpaaaGreatDoorZa5
import Derived.Test.YtiblkfkeifnpaaaGreatDoorZop
set_option linter.all false
namespace Go.Proofs.YtiblkfkeifnpaaaGreatDoor
open Go Go.RowKit

/-- One text is ahead of another. -/
def bl (a b : ByteArray) : Bool := Op.bytesLess a.toList b.toList
theorem bytesLess_iff : ∀ a b : List UInt8, Op.bytesLess a b = decide (a < b)
  | _, [] => by simp [Op.bytesLess]
  | [], y :: s => by simp [Op.bytesLess]
  | x :: r, y :: s => by
    rw [Op.bytesLess, bytesLess_iff r s]
    by_cases h : x < y
    · simp [h, List.cons_lt_cons_iff]
    · by_cases he : x = y
      · simp [he]
      · simp [h, he, List.cons_lt_cons_iff]
theorem bl_iff (a b : ByteArray) : bl a b = true ↔ a.data.toList < b.data.toList := by
  rw [bl, bytesLess_iff, ByteArray.toList_eq, ByteArray.toList_eq]; simp
theorem ba_ext {a b : ByteArray} (h : a.data.toList = b.data.toList) : a = b := ByteArray.ext (Array.ext' h)
theorem bl_irrefl (a : ByteArray) : bl a a = false := by
  rw [Bool.eq_false_iff, ne_eq, bl_iff]; exact List.lt_irrefl _
theorem bl_trans {a b c : ByteArray} (h : bl a b = true) (k : bl b c = true) : bl a c = true := by
  rw [bl_iff] at *; exact List.lt_trans h k
theorem bl_asymm {a b : ByteArray} (h : bl a b = true) : bl b a = false := by
  rw [Bool.eq_false_iff]; intro k
  have := bl_trans h k
  rw [bl_irrefl] at this; cases this
theorem bl_tri {a b : ByteArray} (h : bl a b = false) (hne : a ≠ b) : bl b a = true := by
  rw [bl_iff]
  have h1 : ¬ a.data.toList < b.data.toList := fun k => by rw [(bl_iff a b).2 k] at h; cases h
  rcases List.le_iff_lt_or_eq.1 (List.not_lt.1 h1) with h2 | h2
  · exact h2
  · exact absurd (ba_ext h2).symm hne
theorem eq_toList (a b : ByteArray) : (a.toList == b.toList) = decide (a = b) := by
  rw [ByteArray.toList_eq, ByteArray.toList_eq, Bool.eq_iff_iff]
  simp only [beq_iff_eq, decide_eq_true_eq]
  exact ⟨ba_ext, fun h => by rw [h]⟩
/-- Rising, each once. -/
def Strict (l : List ByteArray) : Prop := l.Pairwise fun a b => bl a b = true
/-- A text is put in its place, if it isn't there. -/
def insP (x : ByteArray) (l : List ByteArray) : Nat := (l.takeWhile fun y => bl y x).length
def ins (x : ByteArray) (l : List ByteArray) : List ByteArray := if l[insP x l]? = some x then l else l.take (insP x l) ++ [x] ++ l.drop (insP x l)
theorem tw_mem (p : ByteArray → Bool) (z : ByteArray) : ∀ l : List ByteArray, z ∈ l.takeWhile p → p z = true
  | [], h => by cases h
  | y :: l, h => by
    rw [List.takeWhile_cons] at h
    by_cases hy : p y = true
    · rw [if_pos hy] at h
      rcases List.mem_cons.1 h with rfl | h
      · exact hy
      · exact tw_mem p z l h
    · rw [if_neg hy] at h; cases h
theorem dw_head (p : ByteArray → Bool) (x : ByteArray) (r : List ByteArray) : ∀ l : List ByteArray, l.dropWhile p = x :: r → p x = false
  | [], h => by cases h
  | y :: l, h => by
    rw [List.dropWhile_cons] at h
    by_cases hy : p y = true
    · rw [if_pos hy] at h; exact dw_head p x r l h
    · rw [if_neg hy] at h
      cases h
      simpa using hy
theorem tw_split (p : ByteArray → Bool) (l : List ByteArray) : l = l.takeWhile p ++ l.dropWhile p := (List.takeWhile_append_dropWhile).symm
theorem ins_mem (x z : ByteArray) (l : List ByteArray) : z ∈ ins x l ↔ z = x ∨ z ∈ l := by
  unfold ins
  split
  · rename_i h
    have := List.mem_of_getElem? h
    constructor
    · exact .inr
    · rintro (rfl | h) <;> assumption
  · have h2 : z ∈ l ↔ z ∈ l.take (insP x l) ∨ z ∈ l.drop (insP x l) := by
      rw [← List.mem_append, List.take_append_drop]
    rw [h2]
    simp only [List.mem_append, List.mem_singleton]
    constructor
    · rintro ((h | h) | h)
      · exact .inr (.inl h)
      · exact .inl h
      · exact .inr (.inr h)
    · rintro (h | h | h)
      · exact .inl (.inr h)
      · exact .inl (.inl h)
      · exact .inr h
theorem insP_le (x : ByteArray) (l : List ByteArray) : insP x l ≤ l.length := by
  have := congrArg List.length (tw_split (fun y => bl y x) l)
  rw [List.length_append] at this
  unfold insP; omega
theorem insP_take (x : ByteArray) (l : List ByteArray) : l.take (insP x l) = l.takeWhile fun y => bl y x := by
  conv => lhs; arg 2; rw [tw_split (fun y => bl y x) l]
  exact List.take_left
theorem insP_drop (x : ByteArray) (l : List ByteArray) : l.drop (insP x l) = l.dropWhile fun y => bl y x := by
  conv => lhs; arg 2; rw [tw_split (fun y => bl y x) l]
  exact List.drop_left
theorem insP_below (x : ByteArray) (l : List ByteArray) (i : Nat) (hi : i < insP x l) : bl (l.getD i ByteArray.empty) x = true := by
  have h1 := insP_le x l
  have hm : l[i]'(by omega) ∈ l.takeWhile fun y => bl y x := by
    rw [← insP_take]
    exact List.mem_take_iff_getElem.2 ⟨i, by omega, rfl⟩
  have := tw_mem (fun y => bl y x) _ l hm
  simpa [List.getD, show i < l.length by omega] using this
theorem insP_at (x : ByteArray) (l : List ByteArray) (h : insP x l < l.length) : bl (l.getD (insP x l) ByteArray.empty) x = false := by
  have hd := insP_drop x l
  rw [List.drop_eq_getElem_cons h] at hd
  have h3 := dw_head (fun y => bl y x) _ _ l hd.symm
  simpa [List.getD, h] using h3
theorem ins_strict (x : ByteArray) (l : List ByteArray) (h : Strict l) : Strict (ins x l) := by
  unfold ins
  split
  · exact h
  · rename_i hne
    have hs := h
    rw [tw_split (fun y => bl y x) l] at hs
    obtain ⟨s1, s2, s3⟩ := List.pairwise_append.1 hs
    rw [insP_take, insP_drop]
    have hlow : ∀ z ∈ l.takeWhile (fun y => bl y x), bl z x = true := fun z hz => tw_mem (fun y => bl y x) z l hz
    have hup : ∀ z ∈ l.dropWhile (fun y => bl y x), bl x z = true := by
      rw [← insP_drop] at s2 ⊢
      by_cases hlt : insP x l < l.length
      · have h0 := insP_at x l hlt
        rw [show l.getD (insP x l) ByteArray.empty = l[insP x l] by simp [List.getD, hlt]] at h0
        have h1 : bl x l[insP x l] = true := bl_tri h0 fun e => hne (by rw [List.getElem?_eq_getElem hlt, e])
        intro z hz
        rw [List.drop_eq_getElem_cons hlt] at s2 hz
        rcases List.mem_cons.1 hz with rfl | hz
        · exact h1
        · exact bl_trans h1 ((List.pairwise_cons.1 s2).1 z hz)
      · rw [List.drop_eq_nil_of_le (by omega)]
        intro z hz; cases hz
    refine List.pairwise_append.2 ⟨List.pairwise_append.2 ⟨s1, List.pairwise_singleton _ _, fun a ha b hb => ?_⟩, s2, fun a ha b hb => ?_⟩
    · obtain rfl : b = x := by simpa using hb
      exact hlow a ha
    · rcases List.mem_append.1 ha with ha | ha
      · exact s3 a ha b hb
      · obtain rfl : a = x := by simpa using ha
        exact hup b hb
def ris (l : List ByteArray) : List ByteArray := l.foldl (fun out x => ins x out) []
theorem ris_snoc (l : List ByteArray) (x : ByteArray) : ris (l ++ [x]) = ins x (ris l) := by rw [ris, List.foldl_append]; rfl
theorem ris_take (l : List ByteArray) (i : Nat) (h : i < l.length) : ris (l.take (i + 1)) = ins (l.getD i ByteArray.empty) (ris (l.take i)) := by
  rw [List.take_succ_eq_append_getElem h, ris_snoc]
  simp [List.getD, h]
theorem ris_props (l : List ByteArray) : Strict (ris l) ∧ ∀ z, z ∈ ris l ↔ z ∈ l := by
  obtain ⟨r, rfl⟩ : ∃ r : List ByteArray, l = r.reverse := ⟨l.reverse, by simp⟩
  induction r with
  | nil => exact ⟨List.Pairwise.nil, fun z => Iff.rfl⟩
  | cons x r ih =>
    rw [List.reverse_cons, ris_snoc]
    refine ⟨ins_strict x _ ih.1, fun z => ?_⟩
    rw [ins_mem, ih.2 z]
    simp only [List.mem_append, List.mem_singleton]
    exact or_comm
theorem ins_length (x : ByteArray) (l : List ByteArray) : (ins x l).length ≤ l.length + 1 := by
  unfold ins
  have := insP_le x l
  split
  · omega
  · simp; omega
theorem ris_length (l : List ByteArray) : (ris l).length ≤ l.length := by
  obtain ⟨r, rfl⟩ : ∃ r : List ByteArray, l = r.reverse := ⟨l.reverse, by simp⟩
  induction r with
  | nil => exact Nat.le_refl _
  | cons x r ih =>
    rw [List.reverse_cons, ris_snoc, List.length_append, List.length_singleton]
    have := ins_length x (ris r.reverse)
    omega
/-! ### Good sets -/
def okAt (ids : List ByteArray) (i : Nat) : Bool := decide ((ids.getD i ByteArray.empty).size = 32) && (decide (i = 0) || bl (ids.getD (i - 1) ByteArray.empty) (ids.getD i ByteArray.empty))
def chkB (ids : List ByteArray) (need : Int) : Bool := decide (1 ≤ need) && (decide (need ≤ (ids.length : Int)) && (decide (ids.length ≤ 16) && (List.range ids.length).all (okAt ids)))
def chkE (ids : List ByteArray) (need : Int) : Int := if chkB ids need then 0 else 1
theorem chkB_iff (ids : List ByteArray) (need : Int) : chkB ids need = true ↔ 1 ≤ need ∧ need ≤ (ids.length : Int) ∧ ids.length ≤ 16 ∧ ∀ i, i < ids.length → okAt ids i = true := by
  simp [chkB]
theorem chk_no (ids : List ByteArray) (need : Int) (h : need < 1 ∨ (ids.length : Int) < need ∨ 16 < ids.length) : chkE ids need = 1 := by
  have : chkB ids need = false := by
    rw [Bool.eq_false_iff]; intro k
    rw [chkB_iff] at k
    omega
  rw [chkE, this]; rfl
theorem chk_bad (ids : List ByteArray) (need : Int) (i : Nat) (hi : i < ids.length) (h : okAt ids i = false) : chkE ids need = 1 := by
  have : chkB ids need = false := by
    rw [Bool.eq_false_iff]; intro k
    rw [((chkB_iff ids need).1 k).2.2.2 i hi] at h; cases h
  rw [chkE, this]; rfl
theorem chk_ok (ids : List ByteArray) (need : Int) (h1 : 1 ≤ need) (h2 : need ≤ (ids.length : Int)) (h3 : ids.length ≤ 16) (h : ∀ i, i < ids.length → okAt ids i = true) : chkE ids need = 0 := by
  rw [chkE, if_pos ((chkB_iff ids need).2 ⟨h1, h2, h3, h⟩)]
/-- Who counts. -/
def sgnB (id text : ByteArray) (s : ByteArray × ByteArray) : Bool := decide (s.1 = id) && decide (verE id text s.2 = 0)
def whoL (ids : List ByteArray) (text : ByteArray) (sg : List (ByteArray × ByteArray)) : List ByteArray := ids.filter fun id => sg.any (sgnB id text)
def whoE (ids : List ByteArray) (need : Int) (text : ByteArray) (sg : List (ByteArray × ByteArray)) : List ByteArray := if chkB ids need then whoL ids text sg else []
def enB (ids : List ByteArray) (need : Int) (text : ByteArray) (sg : List (ByteArray × ByteArray)) : Bool := chkB ids need && decide (need ≤ ((whoL ids text sg).length : Int))
end Go.Proofs.YtiblkfkeifnpaaaGreatDoor

namespace Go.Proofs.YtiblkfkeifnpaaaGreatDoor
open Go Go.RowKit

theorem PartsAt.here {w w' : World} {v : Value} {ps : List ByteArray} (h : PartsAt w v ps) (hb : Below w.heap.size w w') : PartsAt w' v ps := by
  obtain ⟨a, cap, rfl, hh⟩ := h.ex
  refine ⟨a, cap, rfl, fun h0 => ?_⟩
  obtain ⟨blk, off, e, hl, hc⟩ := hh h0
  exact ⟨blk, off, e, Nat.lt_of_lt_of_le hl hb.size, fun i hi => (hb.cell (p := ⟨blk, off + i, none⟩) hl).trans (hc i hi)⟩
set_option maxHeartbeats 1600000 in
set_option maxRecDepth 100000 in
theorem check_some (blk off cap : Nat) (ids : List ByteArray) (need : Int) (w : World) (hlt : blk < w.heap.size) (hc : ∀ i, i < ids.length → w.cell? ⟨blk, off + i, none⟩ = some (.string (ids.getD i ByteArray.empty)))
    (hn1 : 1 ≤ need) (hn2 : need ≤ (ids.length : Int)) (hn3 : ids.length ≤ 16) :
    Calls Tryz.prog 116 #[.agg #[.slice (some ⟨blk, off, none⟩) ids.length cap, .int .i64 need]] w fun e w' => e = .returned (.int .i64 (chkE ids need)) ∧ Below w.heap.size w w' := by
  obtain ⟨L, hL⟩ : ∃ L, ids.length = L := ⟨_, rfl⟩
  have hbad := fun i => chk_bad ids need i
  have hok := chk_ok ids need hn1 hn2 hn3
  have hE : ∀ i, okAt ids i = (decide ((ids.getD i ByteArray.empty).size = 32) && (decide (i = 0) || bl (ids.getD (i - 1) ByteArray.empty) (ids.getD i ByteArray.empty))) := fun _ => rfl
  obtain ⟨E, hEE⟩ : ∃ E, chkE ids need = E := ⟨_, rfl⟩
  rw [hEE] at hbad hok ⊢
  rw [hL] at hc hn2 hn3 hbad hok ⊢
  have hg1 : ¬ need < 1 := by omega
  have hg2 : ¬ (L : Int) < need := by omega
  have hg3 : ¬ 16 < (L : Int) := by omega
  replace hbad := Box.mk hbad
  replace hok := Box.mk hok
  replace hc := Box.mk hc
  replace hE := Box.mk hE
  have hltB := Box.mk hlt
  clear hL hlt hEE
  go_enter Tryz.func116, Tryz.ntmps116
  go_wp2_with fail
  have hB0 : Box (Below w.heap.size w (w.alloc (.cells #[.slice (some ⟨blk, off, none⟩) L cap, .int .i64 need] 24))) := ⟨(Below.refl _ _).alloc (Nat.le_refl _) _⟩
  go_loopw [3, 4, 25] (fun _ _ q wr => ∃ i : Nat, i ≤ L ∧ q = .int .i64 (i : Int) ∧ Box (∀ j, j < i → okAt ids j = true) ∧ wr = w.alloc (.cells #[.slice (some ⟨blk, off, none⟩) L cap, .int .i64 need] 24)) (fun _ _ q _ => L - (intOf q).toNat)
  case atStart => exact ⟨0, by omega, rfl, ⟨fun j hj => by omega⟩, rfl⟩
  case round =>
    obtain ⟨i, hi, rfl, hA, rfl⟩ := hrel
    by_cases hlt : i < L
    · have hx := hc.out i hlt
      have hEi := hE.out i
      have hbadi := hbad.out i hlt
      obtain ⟨x, hxe⟩ : ∃ x, ids.getD i ByteArray.empty = x := ⟨_, rfl⟩
      rw [hxe] at hx hEi
      have hxw : (w.alloc (.cells #[.slice (some ⟨blk, off, none⟩) L cap, .int .i64 need] 24)).cell? ⟨blk, off + i, none⟩ = some (.string x) := (hB0.out.cell (p := ⟨blk, off + i, none⟩) hltB.out).trans hx
      replace hEi := Box.mk hEi
      replace hbadi := Box.mk hbadi
      have hAn : ∀ v, okAt ids i = v → v = true → ∀ j, j < i + 1 → okAt ids j = true := fun v e ev j hj => by
        by_cases e2 : j = i
        · subst e2; rw [e, ev]
        · exact hA.out j (by omega)
      replace hAn := Box.mk hAn
      clear hx hxe
      by_cases hs : x.size = 32
      · by_cases h0 : i = 0
        · subst h0
          rw [Nat.add_zero] at hxw
          go_wp2_with fail
          exact ⟨⟨1, by omega, rfl, ⟨hAn.out true (by rw [hEi.out]; simp [hs]) rfl⟩, trivial⟩, by simp [intOf]; omega⟩
        · have hy := hc.out (i - 1) (by omega)
          obtain ⟨y, hye⟩ : ∃ y, ids.getD (i - 1) ByteArray.empty = y := ⟨_, rfl⟩
          have hEi2 := hEi.out
          rw [hye] at hy hEi2
          have hyw : (w.alloc (.cells #[.slice (some ⟨blk, off, none⟩) L cap, .int .i64 need] 24)).cell? ⟨blk, off + (i - 1), none⟩ = some (.string y) := (hB0.out.cell (p := ⟨blk, off + (i - 1), none⟩) hltB.out).trans hy
          have hi1 : (((i : Int) - 1).toNat) = i - 1 := by omega
          have hi2 : 0 < (i : Int) := by omega
          have hble : bl y x = true → (Op.bytesLess x.toList y.toList || x.toList == y.toList) = false := fun hb => by
            have h1 : Op.bytesLess x.toList y.toList = false := bl_asymm hb
            rw [h1, eq_toList, Bool.false_or, decide_eq_false_iff_not]
            intro e
            rw [e, bl_irrefl] at hb; cases hb
          have hblt : bl y x = false → (Op.bytesLess x.toList y.toList || x.toList == y.toList) = true := fun hb => by
            rw [eq_toList]
            by_cases e : x = y
            · simp [e]
            · have h1 : Op.bytesLess x.toList y.toList = true := bl_tri hb (fun h => e h.symm)
              rw [h1, Bool.true_or]
          replace hEi2 := Box.mk hEi2
          replace hble := Box.mk hble
          replace hblt := Box.mk hblt
          clear hy hye
          by_cases hb : bl y x = true
          · have hcmp := hble.out hb
            have hEk : Box (okAt ids i = true) := ⟨by rw [hEi2.out]; simp [hs, hb]⟩
            clear hb
            go_wp2_with fail
            exact ⟨⟨i + 1, by omega, by go_num, ⟨hAn.out true hEk.out rfl⟩, trivial⟩, by simp [intOf]; omega⟩
          · have hcmp := hblt.out (by simpa using hb)
            have hEk : Box (okAt ids i = false) := ⟨by rw [hEi2.out]; simp [hb, h0]⟩
            clear hb
            go_wp2_with fail
            go_returns
            exact ⟨by rw [hbadi.out hEk.out]; rfl, hB0.out⟩
      · have hEk : Box (okAt ids i = false) := ⟨by rw [hEi.out]; simp [hs]⟩
        go_wp2_with fail
        go_returns
        exact ⟨by rw [hbadi.out hEk.out]; rfl, hB0.out⟩
    · obtain rfl : i = L := by omega
      have hokL : Box (E = 0) := ⟨hok.out hA.out⟩
      go_wp2_with fail
      go_returns
      exact ⟨by rw [hokL.out]; rfl, hB0.out⟩
set_option maxHeartbeats 1600000 in
theorem check_no (a : Option Addr) (cap L : Nat) (need : Int) (w : World) (hL : L ≤ maxLen) (h : need < 1 ∨ (L : Int) < need ∨ 16 < L) :
    Calls Tryz.prog 116 #[.agg #[.slice a L cap, .int .i64 need]] w fun e w' => e = .returned (.int .i64 1) ∧ Below w.heap.size w w' := by
  have hB0 : Box (Below w.heap.size w (w.alloc (.cells #[.slice a L cap, .int .i64 need] 24))) := ⟨(Below.refl _ _).alloc (Nat.le_refl _) _⟩
  unfold maxLen at hL
  by_cases h1 : need < 1
  · clear h
    go_enter Tryz.func116, Tryz.ntmps116
    go_wp2_with fail
    go_returns
    exact ⟨rfl, hB0.out⟩
  · by_cases h2 : (L : Int) < need
    · clear h
      go_enter Tryz.func116, Tryz.ntmps116
      go_wp2_with fail
      go_returns
      exact ⟨rfl, hB0.out⟩
    · have h3 : (16 : Int) < (L : Int) := by omega
      clear h
      go_enter Tryz.func116, Tryz.ntmps116
      go_wp2_with fail
      go_returns
      exact ⟨rfl, hB0.out⟩
theorem check_any (v : Value) (ids : List ByteArray) (need : Int) (w : World) (hv : PartsAt w v ids) (hm : ids.length ≤ maxLen) :
    Calls Tryz.prog 116 #[.agg #[v, .int .i64 need]] w fun e w' => e = .returned (.int .i64 (chkE ids need)) ∧ Below w.heap.size w w' := by
  obtain ⟨a, cap, rfl, hh⟩ := hv.ex
  by_cases h : need < 1 ∨ (ids.length : Int) < need ∨ 16 < ids.length
  · rw [chk_no ids need h]
    exact check_no a cap ids.length need w hm h
  · obtain ⟨blk, off, rfl, hlt, hc⟩ := hh (by omega)
    exact check_some blk off cap ids need w hlt hc (by omega) (by omega) (by omega)
set_option maxHeartbeats 1600000 in
theorem rcheck_no (a : Option Addr) (cap L : Nat) (need : Int) (w : World) (hL : L ≤ maxLen) (h : need < 1 ∨ (L : Int) < need ∨ 16 < L) :
    Calls Tryz.prog 78 #[.agg #[.slice a L cap, .int .i64 need]] w fun e w' => e = .returned (.int .i64 1) ∧ Below w.heap.size w w' := by
  have hB0 : Box (Below w.heap.size w (w.alloc (.cells #[.slice a L cap, .int .i64 need] 24))) := ⟨(Below.refl _ _).alloc (Nat.le_refl _) _⟩
  unfold maxLen at hL
  by_cases h0 : (L : Int) < 1
  · clear h
    go_enter Tryz.func78, Tryz.ntmps78
    go_wp2_with fail
    go_returns
    exact ⟨rfl, hB0.out⟩
  by_cases h3 : (16 : Int) < (L : Int)
  · clear h
    go_enter Tryz.func78, Tryz.ntmps78
    go_wp2_with fail
    go_returns
    exact ⟨rfl, hB0.out⟩
  by_cases h1 : need < 1
  · clear h
    go_enter Tryz.func78, Tryz.ntmps78
    go_wp2_with fail
    go_returns
    exact ⟨rfl, hB0.out⟩
  · have h2 : (L : Int) < need := by omega
    clear h
    go_enter Tryz.func78, Tryz.ntmps78
    go_wp2_with fail
    go_returns
    exact ⟨rfl, hB0.out⟩
set_option maxHeartbeats 3200000 in
set_option maxRecDepth 100000 in
theorem rcheck_some (blk off cap : Nat) (ids : List ByteArray) (need : Int) (w : World) (hlt : blk < w.heap.size) (hc : ∀ i, i < ids.length → w.cell? ⟨blk, off + i, none⟩ = some (.string (ids.getD i ByteArray.empty)))
    (hn1 : 1 ≤ need) (hn2 : need ≤ (ids.length : Int)) (hn3 : ids.length ≤ 16) :
    Calls Tryz.prog 78 #[.agg #[.slice (some ⟨blk, off, none⟩) ids.length cap, .int .i64 need]] w fun e w' => e = .returned (.int .i64 (chkE ids need)) ∧ Below w.heap.size w w' := by
  obtain ⟨L, hL⟩ : ∃ L, ids.length = L := ⟨_, rfl⟩
  have hbad := fun i => chk_bad ids need i
  have hok := chk_ok ids need hn1 hn2 hn3
  have hE : ∀ i, okAt ids i = (decide ((ids.getD i ByteArray.empty).size = 32) && (decide (i = 0) || bl (ids.getD (i - 1) ByteArray.empty) (ids.getD i ByteArray.empty))) := fun _ => rfl
  obtain ⟨E, hEE⟩ : ∃ E, chkE ids need = E := ⟨_, rfl⟩
  rw [hEE] at hbad hok ⊢
  rw [hL] at hc hn2 hn3 hbad hok ⊢
  have hg1 : ¬ need < 1 := by omega
  have hg2 : ¬ (L : Int) < need := by omega
  have hg3 : ¬ 16 < (L : Int) := by omega
  have hg4 : ¬ (L : Int) < 1 := by omega
  have hS0 : Box (Blk (w.alloc (.cells #[.slice (some ⟨blk, off, none⟩) L cap, .int .i64 need] 24)) w.heap.size [.slice (some ⟨blk, off, none⟩) L cap, .int .i64 need] 24) := ⟨Blk.new w [.slice (some ⟨blk, off, none⟩) L cap, .int .i64 need] _⟩
  have hB0 : Box (Below w.heap.size w (w.alloc (.cells #[.slice (some ⟨blk, off, none⟩) L cap, .int .i64 need] 24))) := ⟨(Below.refl _ _).alloc (Nat.le_refl _) _⟩
  replace hbad := Box.mk hbad
  replace hok := Box.mk hok
  replace hc := Box.mk hc
  replace hE := Box.mk hE
  have hltB := Box.mk hlt
  clear hL hlt hEE
  go_enter Tryz.func78, Tryz.ntmps78
  go_wp2_with fail
  go_loopw [3] (fun q wr => ∃ i : Nat, i ≤ L ∧ q = .int .i64 (i : Int) ∧ Box (∀ j, j < i → okAt ids j = true) ∧ Box (Blk wr w.heap.size [.slice (some ⟨blk, off, none⟩) L cap, .int .i64 need] 24) ∧ Box (Below w.heap.size w wr)) (fun q _ => L - (intOf q).toNat)
  case atStart => exact ⟨0, by omega, rfl, ⟨fun j hj => by omega⟩, hS0, hB0⟩
  case round =>
    clear hS0 hB0
    obtain ⟨i, hi, rfl, hA, hS, hB⟩ := hrel
    have s0 : wr.cell? ⟨w.heap.size, 0, none⟩ = some (.slice (some ⟨blk, off, none⟩) L cap) := hS.out.cell 0
    by_cases hlt : i < L
    · have hx := hc.out i hlt
      have hEi := hE.out i
      have hbadi := hbad.out i hlt
      obtain ⟨x, hxe⟩ : ∃ x, ids.getD i ByteArray.empty = x := ⟨_, rfl⟩
      rw [hxe] at hx hEi
      have hxw : wr.cell? ⟨blk, off + i, none⟩ = some (.string x) := (hB.out.cell (p := ⟨blk, off + i, none⟩) hltB.out).trans hx
      replace hEi := Box.mk hEi
      replace hbadi := Box.mk hbadi
      have hAn : ∀ v, okAt ids i = v → v = true → ∀ j, j < i + 1 → okAt ids j = true := fun v e ev j hj => by
        by_cases e2 : j = i
        · subst e2; rw [e, ev]
        · exact hA.out j (by omega)
      replace hAn := Box.mk hAn
      clear hx hxe
      have hig : (i : Int) < (L : Int) := by omega
      by_cases hs : x.size = 32
      · have hsd : ((x.size : Int) != 32) = false := by simp [hs]
        by_cases h0 : i = 0
        · subst h0
          rw [Nat.add_zero] at hxw
          have h0d : decide ((0 : Int) < ((0 : Nat) : Int)) = false := by simp
          go_wp2_with fail
          go_quiet (fail)
          go_wp2_with fail
          exact ⟨⟨1, by omega, rfl, ⟨hAn.out true (by rw [hEi.out]; simp [hs]) rfl⟩, ⟨hS.out.drewN nq⟩, ⟨hB.out.trans (Drawn.below ⟨nq, rfl⟩)⟩⟩, by simp [intOf]; omega⟩
        · have hy := hc.out (i - 1) (by omega)
          obtain ⟨y, hye⟩ : ∃ y, ids.getD (i - 1) ByteArray.empty = y := ⟨_, rfl⟩
          have hEi2 := hEi.out
          rw [hye] at hy hEi2
          have hyw : wr.cell? ⟨blk, off + (i - 1), none⟩ = some (.string y) := (hB.out.cell (p := ⟨blk, off + (i - 1), none⟩) hltB.out).trans hy
          have hi1 : (((i : Int) - 1).toNat) = i - 1 := by omega
          have hi2 : decide (0 < i) = true := by simp; omega
          have hi3 : 0 ≤ (i : Int) - 1 := by omega
          have hi4 : (i : Int) - 1 < (L : Int) := by omega
          have hi5 : IntKind.i64.wrap ((i : Int) - 1) = (i : Int) - 1 := IntWalk.i64_in _ (by omega)
          have hcm : Op.bytesLess y.toList x.toList = bl y x := rfl
          replace hEi2 := Box.mk hEi2
          clear hy hye
          by_cases hb : bl y x = true
          · have hEk : Box (okAt ids i = true) := ⟨by rw [hEi2.out]; simp [hs, hb]⟩
            rw [hb] at hcm
            clear hb
            go_wp2_with fail
            go_quiet (fail)
            go_wp2_with fail
            exact ⟨⟨i + 1, by omega, by go_num, ⟨hAn.out true hEk.out rfl⟩, ⟨hS.out.drewN nq⟩, ⟨hB.out.trans (Drawn.below ⟨nq, rfl⟩)⟩⟩, by simp [intOf]; omega⟩
          · have hEk : Box (okAt ids i = false) := ⟨by rw [hEi2.out]; simp [hb, h0]⟩
            rw [show bl y x = false by simpa using hb] at hcm
            go_wp2_with fail
            go_quiet (fail)
            go_wp2_with fail
            go_returns
            exact ⟨by rw [hbadi.out hEk.out]; rfl, hB.out.trans (Drawn.below ⟨nq, rfl⟩)⟩
      · have hsd : ((x.size : Int) != 32) = true := by simp; omega
        have hEk : Box (okAt ids i = false) := ⟨by rw [hEi.out]; simp [hs]⟩
        go_wp2_with fail
        go_quiet (fail)
        go_wp2_with fail
        go_returns
        exact ⟨by rw [hbadi.out hEk.out]; rfl, hB.out.trans (Drawn.below ⟨nq, rfl⟩)⟩
    · obtain rfl : i = L := by omega
      have hokL : Box (E = 0) := ⟨hok.out hA.out⟩
      go_wp2_with fail
      go_returns
      exact ⟨by rw [hokL.out]; rfl, hB.out⟩
theorem rcheck_any (v : Value) (ids : List ByteArray) (need : Int) (w : World) (hv : PartsAt w v ids) (hm : ids.length ≤ maxLen) :
    Calls Tryz.prog 78 #[.agg #[v, .int .i64 need]] w fun e w' => e = .returned (.int .i64 (chkE ids need)) ∧ Below w.heap.size w w' := by
  obtain ⟨a, cap, rfl, hh⟩ := hv.ex
  by_cases h : need < 1 ∨ (ids.length : Int) < need ∨ 16 < ids.length
  · rw [chk_no ids need h]
    exact rcheck_no a cap ids.length need w hm h
  · obtain ⟨blk, off, rfl, hlt, hc⟩ := hh (by omega)
    exact rcheck_some blk off cap ids need w hlt hc (by omega) (by omega) (by omega)
end Go.Proofs.YtiblkfkeifnpaaaGreatDoor

namespace Go.Proofs.YtiblkfkeifnpaaaGreatDoor
open Go Go.RowKit Go.Sort Go.Shelf
attribute [local go_sem] Oper.semAt_some

end Go.Proofs.YtiblkfkeifnpaaaGreatDoor

namespace Go.Proofs.YtiblkfkeifnpaaaGreatDoor
open Go Go.RowKit Go.Sort Go.Shelf

theorem TxR.set {B b i : Nat} {w : World} {v : Value} {ids : List ByteArray} {cs : List Value} {t : TypeId} (h : TxR B w v ids) (hb : Blk w b cs t) (ht : t ≠ 9) (u : Value) : TxR B (w.setCell ⟨b, i, none⟩ u) v ids := by
  obtain ⟨hx, h0 | ⟨g, cap, cur, rfl, b1, hg, b2⟩⟩ := h
  · exact ⟨hx, .inl h0⟩
  · refine ⟨hx, .inr ⟨g, cap, cur, rfl, b1, ?_, b2⟩⟩
    have hne : g ≠ b := fun e => by
      unfold Blk at hb
      rw [← e, hg] at hb
      simp at hb
      exact ht hb.2.symm
    exact (Below.heap_setCell _ _ _ _ (by simpa using hne)).trans hg
theorem chkE_of (ids : List ByteArray) (need : Int) : chkE ids need = if chkB ids need then 0 else 1 := rfl
end Go.Proofs.YtiblkfkeifnpaaaGreatDoor

namespace Go.Proofs.YtiblkfkeifnpaaaGreatDoor
open Go Go.RowKit

section
variable {w : World} {o : Oper} {a : Act} {Q : Exit → Act → World → Prop}
end
/-- A row's beginning and its end. -/
theorem PartsAt.cut {w : World} {blk off l c : Nat} {ids : List ByteArray} (h : PartsAt w (.slice (some ⟨blk, off, none⟩) l c) ids) (i j c2 : Nat) (hl : ids.length = l) (hij : i ≤ j) (hj : j ≤ l) : PartsAt w (.slice (some ⟨blk, off + i, none⟩) (j - i) c2) ((ids.take j).drop i) := by
  have hdl : ((ids.take j).drop i).length = j - i := by simp; omega
  refine ⟨some ⟨blk, off + i, none⟩, c2, by rw [hdl], fun h0 => ?_⟩
  obtain ⟨a2, cc, e2, hh⟩ := h.ex
  cases e2
  rw [hdl] at h0
  obtain ⟨b2, o2, e3, hb, hc⟩ := hh (by omega)
  cases e3
  refine ⟨blk, off + i, rfl, hb, fun k hk => ?_⟩
  rw [hdl] at hk
  rw [Nat.add_assoc, hc (i + k) (by omega)]
  simp [List.getD, List.getElem?_drop, show i + k < j by omega]
theorem PartsAt.nothing (w : World) (a : Option Addr) (c : Nat) : PartsAt w (.slice a 0 c) [] := ⟨a, c, rfl, fun h => absurd h (Nat.lt_irrefl 0)⟩
/-- In Rising's loop. -/
structure RsAt (w0 w : World) (ids : List ByteArray) (i : Nat) (v : Value) : Prop where
  row : TxR w0.heap.size w v (ris (ids.take i))
  nil0 : i = 0 → v = .slice none 0 0
  bel : Below w0.heap.size w0 w
theorem RsAt.here {w0 w w' : World} {ids : List ByteArray} {i : Nat} {v : Value} (h : RsAt w0 w ids i v) (hb : Below w.heap.size w w') : RsAt w0 w' ids i v := ⟨h.row.here hb, h.nil0, mono_bel h.bel hb (Nat.le_refl _)⟩
theorem RsAt.long {w0 w : World} {ids : List ByteArray} {i : Nat} {v : Value} (h : RsAt w0 w ids i v) (hi : 0 < i) (hl : i ≤ ids.length) : ∃ g c, v = .slice (some ⟨g, 0, none⟩) (ris (ids.take i)).length c ∧ 0 < (ris (ids.take i)).length ∧ (ris (ids.take i)).length ≤ c ∧ c ≤ maxLen := by
  have h0 : 0 < (ris (ids.take i)).length := by
    rcases Nat.eq_zero_or_pos (ris (ids.take i)).length with e | e
    · exfalso
      have hn := List.length_eq_zero_iff.1 e
      have hm : (ids.take i)[0]'(by simp; omega) ∈ ids.take i := List.getElem_mem _
      rw [← (ris_props (ids.take i)).2, hn] at hm
      cases hm
    · exact e
  obtain ⟨_, ⟨_, h1⟩ | ⟨g, cap, cur, rfl, _, _, h2, h3, _⟩⟩ := h.row
  · omega
  · exact ⟨g, cap, rfl, h0, h2, h3⟩
set_option maxHeartbeats 6400000 in
set_option maxRecDepth 100000 in
theorem rising_any (v : Value) (ids : List ByteArray) (w : World) (hv : PartsAt w v ids) (hm : ids.length * 16 ≤ 140737488351232) :
    Calls Tryz.prog 25 #[v] w fun e w' => ∃ v', e = .returned v' ∧ TxR w.heap.size w' v' (ris ids) ∧ Below w.heap.size w w' := by
  obtain ⟨a, cap, rfl, hh⟩ := hv.ex
  obtain ⟨L, hL⟩ : ∃ L, ids.length = L := ⟨_, rfl⟩
  have hstep := fun i hi => ris_take ids i hi
  rw [hL] at hh hstep hm ⊢
  have hLb := Box.mk hL
  have hS0 : Box (RsAt w w ids 0 (.slice none 0 0)) := ⟨⟨TxR.nil _ _, fun _ => rfl, Below.refl _ _⟩⟩
  replace hh := Box.mk hh
  replace hstep := Box.mk hstep
  clear hv hL
  go_enter Tryz.func25, Tryz.ntmps25
  go_wp2_with fail
  go_loopw [3, 4, 5, 6] (fun v3 v4 _ _ wr => ∃ i : Nat, i ≤ L ∧ v4 = .int .i64 (i : Int) ∧ Box (RsAt w wr ids i v3)) (fun _ v4 _ _ _ => L - (intOf v4).toNat)
  case atStart => exact ⟨0, by omega, rfl, hS0⟩
  case round =>
    clear hS0
    obtain ⟨i, hi, rfl, hA⟩ := hrel
    by_cases hlt : i < L
    · obtain ⟨blk, off, rfl, hb, hc⟩ := hh.out (by omega)
      have hx0 := hc i (by omega)
      have hst := hstep.out i hlt
      obtain ⟨x, hx⟩ : ∃ x, ids.getD i ByteArray.empty = x := ⟨_, rfl⟩
      rw [hx] at hx0 hst
      have hxw : ∀ w2, Below w.heap.size w w2 → w2.cell? ⟨blk, off + i, none⟩ = some (.string x) := fun w2 h2 => (h2.cell (p := ⟨blk, off + i, none⟩) hb).trans hx0
      replace hxw := Box.mk hxw
      replace hst := Box.mk hst
      clear hc hx0 hx
      by_cases h0 : i = 0
      · subst h0
        obtain rfl := hA.out.nil0 rfl
        have hxr := hxw.out wr hA.out.bel
        rw [Nat.add_zero] at hxr
        go_wp2_with fail
        go_loopw [5] (fun q wr2 => q = .int .i64 0 ∧ Box (RsAt w wr2 ids 0 (.slice none 0 0))) (fun _ _ => 0)
        case atStart => exact ⟨rfl, hA⟩
        case round =>
          obtain ⟨rfl, hA2⟩ := hrel
          go_wp2_with fail
          go_quiet (fail)
          have hA3 : Box (RsAt w (wr.drewN nq) ids 0 (.slice none 0 0)) := ⟨hA2.out.here (Drawn.below ⟨nq, rfl⟩)⟩
          clear hA2
          generalize wr.drewN nq = w3 at *
          go_wp2_with fail
          go_quiet (fail)
          have hA4 : Box (RsAt w (w3.drewN nq) ids 0 (.slice none 0 0)) := ⟨hA3.out.here (Drawn.below ⟨nq, rfl⟩)⟩
          clear hA3
          generalize w3.drewN nq = w4 at *
          have hx4 := hxw.out w4 hA4.out.bel
          rw [Nat.add_zero] at hx4
          go_wp2_with (refine wpList_pushT rfl (.tmp 45) (.tmp 48) rfl w.heap.size (.slice none 0 0) [] [] rfl (TxR.nil _ _) hA4.out.bel.size none 0 0 rfl rfl (PartsAt.nothing _ _ _) (by simp) ?_)
          rintro v5 w5 hp5
          have hB5 := Box.mk (hp5.bel hA4.out.bel (TxR.nil _ _))
          have hT5 := Box.mk hp5.row
          obtain ⟨a5, c5, e5⟩ := hp5.row.shape
          simp only [List.length_nil] at e5 hT5
          subst e5
          have hx5 := hxw.out w5 hB5.out
          rw [Nat.add_zero] at hx5
          clear hp5 hx4 hA4
          go_wp2_with (refine wpList_pushT rfl (.tmp 50) (.tmp 55) rfl w.heap.size _ [] [x] rfl (hT5.out.here (bel_alloc _ _)) (by have := hB5.out.size; simp; omega) (some ⟨w5.heap.size, 0, none⟩) 1 1 rfl rfl (parts_new w5 [x] 9) (by simp) ?_)
          rintro v6 w6 hp6
          have hB6 := Box.mk (hp6.bel (mono_bel hB5.out (bel_alloc _ _) (Nat.le_refl _)) (hT5.out.here (bel_alloc _ _)))
          have hT6 := Box.mk hp6.row
          obtain ⟨a6, c6, e6⟩ := hp6.row.shape
          simp only [List.length_singleton] at e6 hT6
          subst e6
          clear hp6 hB5 hT5 hx5
          go_wp2_with (refine wpList_pushT rfl (.tmp 57) (.tmp 60) rfl w.heap.size _ [x] [] rfl hT6.out hB6.out.size none 0 0 rfl rfl (PartsAt.nothing _ _ _) (by simp) ?_)
          rintro v7 w7 hp7
          have hA7 : Box (RsAt w w7 ids 1 v7) := ⟨⟨by rw [hst.out]; exact hp7.row, fun h => by omega, hp7.bel hB6.out hT6.out⟩⟩
          clear hp7 hB6 hT6
          go_wp2_with fail
          exact ⟨⟨1, by omega, rfl, hA7⟩, by simp [intOf]; omega⟩
      · obtain ⟨g, c3, rfl, hn0, hnc, hcm⟩ := hA.out.long (by omega) (by rw [hLb.out]; omega)
        obtain ⟨O, hO⟩ : ∃ O, ris (ids.take i) = O := ⟨_, rfl⟩
        have hOl := ris_length (ids.take i)
        rw [List.length_take, hLb.out, hO] at hOl
        rw [hO] at hst hn0 hnc hA ⊢
        obtain ⟨n3, hn3⟩ : ∃ n, O.length = n := ⟨_, rfl⟩
        have hNl := insP_le x O
        have hNlow := insP_below x O
        have hNat := insP_at x O
        have hins : ins x O = if O[insP x O]? = some x then O else O.take (insP x O) ++ [x] ++ O.drop (insP x O) := rfl
        obtain ⟨N, hN⟩ : ∃ N, insP x O = N := ⟨_, rfl⟩
        rw [hN] at hNl hNlow hNat hins
        rw [hn3] at hn0 hnc hA hNl hNat hOl ⊢
        have hNn : N ≤ n3 := hNl
        have hrow : ∀ w2, RsAt w w2 ids i (.slice (some ⟨g, 0, none⟩) n3 c3) → ∀ j, j ≤ n3 → ∀ c, PartsAt w2 (.slice (some ⟨g, 0, none⟩) j c) (O.take j) ∧ PartsAt w2 (.slice (some ⟨g, j, none⟩) (n3 - j) c) (O.drop j) ∧ (j < n3 → w2.cell? ⟨g, j, none⟩ = some (.string (O.getD j ByteArray.empty))) := fun w2 h2 j hj c => by
          have hp := h2.row.parts
          rw [hO] at hp
          have h3 := hp.cut 0 j c hn3 (Nat.zero_le _) hj
          have h4 := hp.cut j n3 c hn3 hj (Nat.le_refl _)
          rw [List.drop_zero, Nat.add_zero, Nat.sub_zero] at h3
          rw [List.take_of_length_le (by omega), Nat.zero_add] at h4
          refine ⟨h3, h4, fun hlt => ?_⟩
          obtain ⟨a2, c2, e2, hh2⟩ := hp.ex
          cases e2
          obtain ⟨b2, o2, e3, _, hc2⟩ := hh2 (by omega)
          cases e3
          have := hc2 j (by omega)
          rwa [Nat.zero_add] at this
        have hcm63 : c3 ≤ 9223372036854775807 := by unfold maxLen at hcm; omega
        replace hrow := Box.mk hrow
        replace hNlow := Box.mk hNlow
        replace hNat := Box.mk hNat
        replace hins := Box.mk hins
        replace hn3 := Box.mk hn3
        replace hO := Box.mk hO
        clear hN hNl hcm
        go_wp2_with fail
        go_loopw [5] (fun q wr2 => ∃ k : Nat, k ≤ N ∧ q = .int .i64 (k : Int) ∧ Box (RsAt w wr2 ids i (.slice (some ⟨g, 0, none⟩) n3 c3))) (fun q _ => N - (intOf q).toNat)
        case atStart => exact ⟨0, by omega, rfl, hA⟩
        case round =>
          clear hA
          obtain ⟨k, hk, rfl, hA2⟩ := hrel
          have hxk := hxw.out _ hA2.out.bel
          by_cases hkN : k < N
          · have hyk := (hrow.out _ hA2.out k (by omega) 0).2.2 (by omega)
            have hcm := hNlow.out k hkN
            obtain ⟨y, hy⟩ : ∃ y, O.getD k ByteArray.empty = y := ⟨_, rfl⟩
            rw [hy] at hyk hcm
            have hcm2 : Op.bytesLess y.toList x.toList = true := hcm
            have hk1 : decide (k < n3) = true := by simp; omega
            have hk2 : (k : Int) < (n3 : Int) := by omega
            have hi2 : (i : Int) < (L : Int) := by omega
            clear hcm hy
            go_wp2_with fail
            go_quiet (fail)
            have hA3 : Box (RsAt w (wr.drewN nq) ids i (.slice (some ⟨g, 0, none⟩) n3 c3)) := ⟨hA2.out.here (Drawn.below ⟨nq, rfl⟩)⟩
            clear hA2 hyk hxk
            go_wp2_with fail
            exact ⟨⟨k + 1, by omega, by go_num, hA3⟩, by simp [intOf]; omega⟩
          · obtain rfl : k = N := by omega
            by_cases hkn : k < n3
            · have hyk := (hrow.out _ hA2.out k (by omega) 0).2.2 hkn
              have hcm := hNat.out hkn
              have hget : O[k]? = some (O.getD k ByteArray.empty) := by rw [List.getD_eq_getElem?_getD, List.getElem?_eq_getElem (by rw [hn3.out]; exact hkn)]; rfl
              obtain ⟨y, hy⟩ : ∃ y, O.getD k ByteArray.empty = y := ⟨_, rfl⟩
              rw [hy] at hyk hcm hget
              have hcm2 : Op.bytesLess y.toList x.toList = false := hcm
              have hk1 : decide (k < n3) = true := by simp; omega
              have hk2 : (k : Int) < (n3 : Int) := by omega
              have hi2 : (i : Int) < (L : Int) := by omega
              have heq : (y.toList == x.toList) = decide (y = x) := eq_toList y x
              replace hy := Box.mk hy
              replace hget := Box.mk hget
              clear hcm
              go_wp2_with fail
              go_quiet (fail)
              have hA3 : Box (RsAt w (wr.drewN nq) ids i (.slice (some ⟨g, 0, none⟩) n3 c3)) := ⟨hA2.out.here (Drawn.below ⟨nq, rfl⟩)⟩
              clear hA2 hyk hxk
              generalize wr.drewN nq = w3 at *
              have hxk := hxw.out _ hA3.out.bel
              have hyk := (hrow.out _ hA3.out k (by omega) 0).2.2 hkn
              rw [hy.out] at hyk
              by_cases hyx : y = x
              · rw [show decide (y = x) = true by simpa using hyx] at heq
                have hres : Box (ins x O = O) := ⟨by rw [hins.out, if_pos (by rw [hget.out, hyx])]⟩
                clear hyx
                go_wp2_with fail
                go_quiet (fail)
                have hA4 : Box (RsAt w (w3.drewN nq) ids (i + 1) (.slice (some ⟨g, 0, none⟩) n3 c3)) := by
                  have h := hA3.out.here (w' := w3.drewN nq) (Drawn.below ⟨nq, rfl⟩)
                  exact ⟨⟨by rw [hst.out, hres.out, ← hO.out]; exact h.row, fun e => by omega, h.bel⟩⟩
                clear hA3 hxk hyk
                go_wp2_with fail
                exact ⟨⟨i + 1, by omega, by go_num, hA4⟩, by simp [intOf]; omega⟩
              · rw [show decide (y = x) = false by simpa using hyx] at heq
                have hres : Box (ins x O = O.take k ++ [x] ++ O.drop k) := ⟨by rw [hins.out, if_neg (by rw [hget.out]; simpa using hyx)]⟩
                clear hyx
                go_wp2_with fail
                go_quiet (fail)
                have hA4 : Box (RsAt w (w3.drewN nq) ids i (.slice (some ⟨g, 0, none⟩) n3 c3)) := ⟨hA3.out.here (Drawn.below ⟨nq, rfl⟩)⟩
                clear hA3 hxk hyk
                generalize w3.drewN nq = w4 at *
                have hxq := hxw.out w4 hA4.out.bel
                go_wp2_with (at_builtin; refine wpList_pushT rfl (.tmp 45) (.tmp 48) rfl w.heap.size (.slice none 0 0) [] (O.take k) rfl (TxR.nil _ _) hA4.out.bel.size _ _ _ rfl (by rw [List.length_take, hn3.out]; omega) (hrow.out w4 hA4.out k (by omega) _).1 (by simp; omega) ?_)
                rintro v5 w5 hp5
                have hB5 := Box.mk (hp5.bel hA4.out.bel (TxR.nil _ _))
                have hT5 : Box (TxR w.heap.size w5 v5 (O.take k)) := ⟨hp5.row⟩
                have hA5 : Box (RsAt w w5 ids i (.slice (some ⟨g, 0, none⟩) n3 c3)) := ⟨hA4.out.here ((hp5.chg.mono fun _ _ e => by cases e).below (S := fun _ => False) (Nat.le_refl _) (fun _ h => h.elim))⟩
                obtain ⟨a5, c5, e5⟩ := hT5.out.shape
                rw [List.length_take, hn3.out, Nat.min_eq_left hNn] at e5
                subst e5
                have hx5 := hxw.out w5 hB5.out
                have hq5 : Box (∀ j, (Value.slice a5 k c5).ownBlock = some j → w4.heap.size ≤ j) := ⟨fun j hk => (hp5.place j hk).resolve_left (fun e => by cases e)⟩
                have hg4 : Box (g < w4.heap.size) := ⟨(hA4.out.row.own g rfl).2⟩
                clear hp5 hxq hA4
                go_wp2_with (at_builtin; refine wpList_pushT rfl (.tmp 50) (.tmp 55) rfl w.heap.size _ (O.take k) [x] rfl (hT5.out.here (bel_alloc _ _)) (by have := hB5.out.size; simp; omega) (some ⟨w5.heap.size, 0, none⟩) 1 1 rfl rfl (parts_new w5 [x] 9) (by rw [List.length_take, hn3.out]; omega) ?_)
                rintro v6 w6 hp6
                have hB6 := Box.mk (hp6.bel (mono_bel hB5.out (bel_alloc _ _) (Nat.le_refl _)) (hT5.out.here (bel_alloc _ _)))
                have hT6 : Box (TxR w.heap.size w6 v6 (O.take k ++ [x])) := ⟨hp6.row⟩
                obtain ⟨a6, c6, e6⟩ := hT6.out.shape
                rw [List.length_append, List.length_take, hn3.out, Nat.min_eq_left hNn, List.length_singleton] at e6
                subst e6
                have hA6 : Box (RsAt w w6 ids i (.slice (some ⟨g, 0, none⟩) n3 c3)) := ⟨⟨(hA5.out.row.here (bel_alloc _ _)).chg hp6.chg (fun j hk e => by
                  have h1 := hq5.out j e
                  obtain rfl : g = j := by simpa [Value.ownBlock] using hk
                  have := hg4.out
                  omega), hA5.out.nil0, hB6.out⟩⟩
                clear hp6 hx5 hB5 hT5 hA5 hq5 hg4
                go_wp2_with (at_builtin; refine wpList_pushT rfl (.tmp 57) (.tmp 60) rfl w.heap.size _ (O.take k ++ [x]) (O.drop k) rfl hT6.out hB6.out.size _ _ _ rfl (by rw [List.length_drop, hn3.out]) (hrow.out w6 hA6.out k (by omega) _).2.1 (by rw [List.length_append, List.length_take, hn3.out, List.length_singleton]; omega) ?_)
                rintro v7 w7 hp7
                have hA7 : Box (RsAt w w7 ids (i + 1) v7) := ⟨⟨by rw [hst.out, hres.out, List.append_assoc]; exact hp7.row, fun h => by omega, hp7.bel hB6.out hT6.out⟩⟩
                clear hp7 hB6 hT6 hA6
                go_wp2_with fail
                exact ⟨⟨i + 1, by omega, by go_num, hA7⟩, by simp [intOf]; omega⟩
            · obtain rfl : k = n3 := by omega
              have hget : O[k]? = none := List.getElem?_eq_none (by rw [hn3.out]; exact Nat.le_refl _)
              have hres : Box (ins x O = O.take k ++ [x] ++ O.drop k) := ⟨by rw [hins.out, if_neg (by rw [hget]; simp)]⟩
              have hk1 : decide (k < k) = false := by simp
              have hk2 : ¬ (k : Int) < (k : Int) := by omega
              have hi2 : (i : Int) < (L : Int) := by omega
              clear hget
              go_wp2_with fail
              go_quiet (fail)
              have hA3 : Box (RsAt w (wr.drewN nq) ids i (.slice (some ⟨g, 0, none⟩) k c3)) := ⟨hA2.out.here (Drawn.below ⟨nq, rfl⟩)⟩
              clear hA2 hxk
              generalize wr.drewN nq = w3 at *
              have hxk := hxw.out _ hA3.out.bel
              go_wp2_with fail
              go_quiet (fail)
              have hA4 : Box (RsAt w (w3.drewN nq) ids i (.slice (some ⟨g, 0, none⟩) k c3)) := ⟨hA3.out.here (Drawn.below ⟨nq, rfl⟩)⟩
              clear hA3 hxk
              generalize w3.drewN nq = w4 at *
              by_cases hkc : k = c3
              · subst hkc
                have hxq := hxw.out w4 hA4.out.bel
                go_wp2_with (at_builtin; refine wpList_pushT rfl (.tmp 45) (.tmp 48) rfl w.heap.size (.slice none 0 0) [] (O.take k) rfl (TxR.nil _ _) hA4.out.bel.size _ _ _ rfl (by rw [List.length_take, hn3.out]; omega) (hrow.out w4 hA4.out k (by omega) _).1 (by simp; omega) ?_)
                rintro v5 w5 hp5
                have hB5 := Box.mk (hp5.bel hA4.out.bel (TxR.nil _ _))
                have hT5 : Box (TxR w.heap.size w5 v5 (O.take k)) := ⟨hp5.row⟩
                have hA5 : Box (RsAt w w5 ids i (.slice (some ⟨g, 0, none⟩) k k)) := ⟨hA4.out.here ((hp5.chg.mono fun _ _ e => by cases e).below (S := fun _ => False) (Nat.le_refl _) (fun _ h => h.elim))⟩
                obtain ⟨a5, c5, e5⟩ := hT5.out.shape
                rw [List.length_take, hn3.out, Nat.min_eq_left hNn] at e5
                subst e5
                have hx5 := hxw.out w5 hB5.out
                have hq5 : Box (∀ j, (Value.slice a5 k c5).ownBlock = some j → w4.heap.size ≤ j) := ⟨fun j hk => (hp5.place j hk).resolve_left (fun e => by cases e)⟩
                have hg4 : Box (g < w4.heap.size) := ⟨(hA4.out.row.own g rfl).2⟩
                clear hp5 hxq hA4
                go_wp2_with (at_builtin; refine wpList_pushT rfl (.tmp 50) (.tmp 55) rfl w.heap.size _ (O.take k) [x] rfl (hT5.out.here (bel_alloc _ _)) (by have := hB5.out.size; simp; omega) (some ⟨w5.heap.size, 0, none⟩) 1 1 rfl rfl (parts_new w5 [x] 9) (by rw [List.length_take, hn3.out]; omega) ?_)
                rintro v6 w6 hp6
                have hB6 := Box.mk (hp6.bel (mono_bel hB5.out (bel_alloc _ _) (Nat.le_refl _)) (hT5.out.here (bel_alloc _ _)))
                have hT6 : Box (TxR w.heap.size w6 v6 (O.take k ++ [x])) := ⟨hp6.row⟩
                obtain ⟨a6, c6, e6⟩ := hT6.out.shape
                rw [List.length_append, List.length_take, hn3.out, Nat.min_eq_left hNn, List.length_singleton] at e6
                subst e6
                have hA6 : Box (RsAt w w6 ids i (.slice (some ⟨g, 0, none⟩) k k)) := ⟨⟨(hA5.out.row.here (bel_alloc _ _)).chg hp6.chg (fun j hk e => by
                  have h1 := hq5.out j e
                  obtain rfl : g = j := by simpa [Value.ownBlock] using hk
                  have := hg4.out
                  omega), hA5.out.nil0, hB6.out⟩⟩
                clear hp6 hx5 hB5 hT5 hA5 hq5 hg4
                go_wp2_with (at_builtin; refine wpList_pushT rfl (.tmp 57) (.tmp 60) rfl w.heap.size _ (O.take k ++ [x]) (O.drop k) rfl hT6.out hB6.out.size _ _ _ rfl (by rw [List.length_drop, hn3.out]; omega) (by rw [List.drop_eq_nil_of_le (by rw [hn3.out]; exact Nat.le_refl _)]; exact PartsAt.nothing _ _ _) (by rw [List.length_append, List.length_take, hn3.out, List.length_singleton]; omega) ?_)
                rintro v7 w7 hp7
                have hA7 : Box (RsAt w w7 ids (i + 1) v7) := ⟨⟨by rw [hst.out, hres.out, List.append_assoc]; exact hp7.row, fun h => by omega, hp7.bel hB6.out hT6.out⟩⟩
                clear hp7 hB6 hT6 hA6
                go_wp2_with fail
                exact ⟨⟨i + 1, by omega, by go_num, hA7⟩, by simp [intOf]; omega⟩
              · have hkc2 : k < c3 := by omega
                have hxq := hxw.out w4 hA4.out.bel
                go_wp2_with (at_builtin; refine wpList_pushT rfl (.tmp 45) (.tmp 48) rfl w.heap.size (.slice none 0 0) [] (O.take k) rfl (TxR.nil _ _) hA4.out.bel.size _ _ _ rfl (by rw [List.length_take, hn3.out]; omega) (hrow.out w4 hA4.out k (by omega) _).1 (by simp; omega) ?_)
                rintro v5 w5 hp5
                have hB5 := Box.mk (hp5.bel hA4.out.bel (TxR.nil _ _))
                have hT5 : Box (TxR w.heap.size w5 v5 (O.take k)) := ⟨hp5.row⟩
                have hA5 : Box (RsAt w w5 ids i (.slice (some ⟨g, 0, none⟩) k c3)) := ⟨hA4.out.here ((hp5.chg.mono fun _ _ e => by cases e).below (S := fun _ => False) (Nat.le_refl _) (fun _ h => h.elim))⟩
                obtain ⟨a5, c5, e5⟩ := hT5.out.shape
                rw [List.length_take, hn3.out, Nat.min_eq_left hNn] at e5
                subst e5
                have hx5 := hxw.out w5 hB5.out
                have hq5 : Box (∀ j, (Value.slice a5 k c5).ownBlock = some j → w4.heap.size ≤ j) := ⟨fun j hk => (hp5.place j hk).resolve_left (fun e => by cases e)⟩
                have hg4 : Box (g < w4.heap.size) := ⟨(hA4.out.row.own g rfl).2⟩
                clear hp5 hxq hA4
                go_wp2_with (at_builtin; refine wpList_pushT rfl (.tmp 50) (.tmp 55) rfl w.heap.size _ (O.take k) [x] rfl (hT5.out.here (bel_alloc _ _)) (by have := hB5.out.size; simp; omega) (some ⟨w5.heap.size, 0, none⟩) 1 1 rfl rfl (parts_new w5 [x] 9) (by rw [List.length_take, hn3.out]; omega) ?_)
                rintro v6 w6 hp6
                have hB6 := Box.mk (hp6.bel (mono_bel hB5.out (bel_alloc _ _) (Nat.le_refl _)) (hT5.out.here (bel_alloc _ _)))
                have hT6 : Box (TxR w.heap.size w6 v6 (O.take k ++ [x])) := ⟨hp6.row⟩
                obtain ⟨a6, c6, e6⟩ := hT6.out.shape
                rw [List.length_append, List.length_take, hn3.out, Nat.min_eq_left hNn, List.length_singleton] at e6
                subst e6
                have hA6 : Box (RsAt w w6 ids i (.slice (some ⟨g, 0, none⟩) k c3)) := ⟨⟨(hA5.out.row.here (bel_alloc _ _)).chg hp6.chg (fun j hk e => by
                  have h1 := hq5.out j e
                  obtain rfl : g = j := by simpa [Value.ownBlock] using hk
                  have := hg4.out
                  omega), hA5.out.nil0, hB6.out⟩⟩
                clear hp6 hx5 hB5 hT5 hA5 hq5 hg4
                go_wp2_with (at_builtin; refine wpList_pushT rfl (.tmp 57) (.tmp 60) rfl w.heap.size _ (O.take k ++ [x]) (O.drop k) rfl hT6.out hB6.out.size _ _ _ rfl (by rw [List.length_drop, hn3.out]; omega) (by rw [List.drop_eq_nil_of_le (by rw [hn3.out]; exact Nat.le_refl _)]; exact PartsAt.nothing _ _ _) (by rw [List.length_append, List.length_take, hn3.out, List.length_singleton]; omega) ?_)
                rintro v7 w7 hp7
                have hA7 : Box (RsAt w w7 ids (i + 1) v7) := ⟨⟨by rw [hst.out, hres.out, List.append_assoc]; exact hp7.row, fun h => by omega, hp7.bel hB6.out hT6.out⟩⟩
                clear hp7 hB6 hT6 hA6
                go_wp2_with fail
                exact ⟨⟨i + 1, by omega, by go_num, hA7⟩, by simp [intOf]; omega⟩
    · obtain rfl : i = L := by omega
      have hT := hA.out.row
      have hB := hA.out.bel
      rw [← hLb.out, List.take_length] at hT
      replace hT := Box.mk hT
      replace hB := Box.mk hB
      clear hA hstep
      obtain ⟨a3, c3, e3⟩ := hT.out.shape
      obtain ⟨n3, hn3⟩ : ∃ n, (ris ids).length = n := ⟨_, rfl⟩
      rw [hn3] at e3
      subst e3
      go_wp2_with fail
      go_ret
      exact ⟨_, rfl, hT.out, hB.out⟩
end Go.Proofs.YtiblkfkeifnpaaaGreatDoor

namespace Go.Proofs.YtiblkfkeifnpaaaGreatDoor
open Go Go.RowKit

def texB (ids js : List ByteArray) : Bool := decide (ids = js)
set_option maxHeartbeats 1600000 in
set_option maxRecDepth 100000 in
theorem same_no (a b : Option Addr) (l m c d : Nat) (w : World) (h : l ≠ m) :
    Calls Tryz.prog 100 #[.slice a l c, .slice b m d] w fun e w' => e = .returned (.bool false) ∧ w' = w := by
  have h1 : ¬ (l : Int) = (m : Int) := by omega
  go_enter Tryz.func100, Tryz.ntmps100
  go_wp2_with fail
  go_ret
  exact ⟨rfl, rfl⟩
set_option maxHeartbeats 1600000 in
set_option maxRecDepth 100000 in
theorem same_yes (b1 o1 b2 o2 c d : Nat) (ids js : List ByteArray) (w : World) (hl1 : b1 < w.heap.size) (hl2 : b2 < w.heap.size) (hL : js.length = ids.length) (h1 : ∀ i, i < ids.length → w.cell? ⟨b1, o1 + i, none⟩ = some (.string (ids.getD i ByteArray.empty))) (h2 : ∀ i, i < ids.length → w.cell? ⟨b2, o2 + i, none⟩ = some (.string (js.getD i ByteArray.empty))) (hm : ids.length ≤ maxLen) :
    Calls Tryz.prog 100 #[.slice (some ⟨b1, o1, none⟩) ids.length c, .slice (some ⟨b2, o2, none⟩) ids.length d] w fun e w' => e = .returned (.bool (texB ids js)) ∧ Below w.heap.size w w' := by
  obtain ⟨L, hLe⟩ : ∃ L, ids.length = L := ⟨_, rfl⟩
  have hne : ∀ i, i < L → ids.getD i ByteArray.empty ≠ js.getD i ByteArray.empty → texB ids js = false := fun i hi e => by
    unfold texB
    rw [decide_eq_false_iff_not]
    intro h; rw [h] at e; exact e rfl
  have hall : (∀ i, i < L → ids.getD i ByteArray.empty = js.getD i ByteArray.empty) → texB ids js = true := fun h => by
    unfold texB
    rw [decide_eq_true_eq]
    apply List.ext_getElem (by omega)
    intro i k1 k2
    have := h i (by omega)
    simpa [List.getD, k1, k2] using this
  rw [hLe] at h1 h2 hm ⊢
  unfold maxLen at hm
  obtain ⟨E, hE⟩ : ∃ E, texB ids js = E := ⟨_, rfl⟩
  rw [hE] at hne hall ⊢
  replace h1 := Box.mk h1
  replace h2 := Box.mk h2
  replace hne := Box.mk hne
  replace hall := Box.mk hall
  have hB0 : Box (Below w.heap.size w w) := ⟨Below.refl _ _⟩
  have l1 := Box.mk hl1
  have l2 := Box.mk hl2
  clear hE hLe hL hl1 hl2
  go_enter Tryz.func100, Tryz.ntmps100
  go_wp2_with fail
  go_loopw [5] (fun q wr => ∃ i : Nat, i ≤ L ∧ q = .int .i64 (i : Int) ∧ Box (∀ j, j < i → ids.getD j ByteArray.empty = js.getD j ByteArray.empty) ∧ Box (Below w.heap.size w wr)) (fun q _ => L - (intOf q).toNat)
  case atStart => exact ⟨0, by omega, rfl, ⟨fun j hj => by omega⟩, hB0⟩
  case round =>
    clear hB0
    obtain ⟨i, hi, rfl, hA, hB⟩ := hrel
    by_cases hlt : i < L
    · have hx := (hB.out.cell (p := ⟨b1, o1 + i, none⟩) l1.out).trans (h1.out i hlt)
      have hy := (hB.out.cell (p := ⟨b2, o2 + i, none⟩) l2.out).trans (h2.out i hlt)
      have hnei := hne.out i hlt
      obtain ⟨x, hxe⟩ : ∃ x, ids.getD i ByteArray.empty = x := ⟨_, rfl⟩
      obtain ⟨y, hye⟩ : ∃ y, js.getD i ByteArray.empty = y := ⟨_, rfl⟩
      rw [hxe, hye] at hnei
      rw [hxe] at hx
      rw [hye] at hy
      have hii : (i : Int) < (L : Int) := by omega
      replace hnei := Box.mk hnei
      replace hxe := Box.mk hxe
      replace hye := Box.mk hye
      have heq : (x.toList == y.toList) = decide (x = y) := eq_toList x y
      by_cases hxy : x = y
      · rw [show decide (x = y) = true by simpa using hxy] at heq
        have hA2 : Box (∀ j, j < i + 1 → ids.getD j ByteArray.empty = js.getD j ByteArray.empty) := ⟨fun j hj => by
          by_cases e : j = i
          · subst e; rw [hxe.out, hye.out]; exact hxy
          · exact hA.out j (by omega)⟩
        have hq : (x.toList != y.toList) = false := by rw [bne, heq]; rfl
        clear hxy
        go_wp2_with fail
        go_quiet (fail)
        have hB2 : Box (Below w.heap.size w (wr.drewN nq)) := ⟨hB.out.trans (Drawn.below ⟨nq, rfl⟩)⟩
        clear hB hx hy hA
        go_wp2_with fail
        exact ⟨⟨i + 1, by omega, by go_num, hA2, hB2⟩, by simp [intOf]; omega⟩
      · rw [show decide (x = y) = false by simpa using hxy] at heq
        have hEf : Box (E = false) := ⟨hnei.out hxy⟩
        have hq : (x.toList != y.toList) = true := by rw [bne, heq]; rfl
        clear hxy
        go_wp2_with fail
        go_quiet (fail)
        have hB2 : Box (Below w.heap.size w (wr.drewN nq)) := ⟨hB.out.trans (Drawn.below ⟨nq, rfl⟩)⟩
        clear hB hx hy hA
        go_wp2_with fail
        go_ret
        exact ⟨by rw [hEf.out]; rfl, hB2.out⟩
    · obtain rfl : i = L := by omega
      have hEt : Box (E = true) := ⟨hall.out hA.out⟩
      go_wp2_with fail
      go_ret
      exact ⟨by rw [hEt.out]; rfl, hB.out⟩
theorem same_zero (a b : Option Addr) (c d : Nat) (w : World) :
    Calls Tryz.prog 100 #[.slice a 0 c, .slice b 0 d] w fun e w' => e = .returned (.bool true) ∧ w' = w := by
  go_enter Tryz.func100, Tryz.ntmps100
  go_wp2_with fail
  go_loopw [5] (fun q wr => q = .int .i64 0 ∧ wr = w) (fun _ _ => 0)
  case atStart => exact ⟨rfl, rfl⟩
  case round =>
    obtain ⟨rfl, rfl⟩ := hrel
    go_wp2_with fail
    go_ret
    exact ⟨rfl, rfl⟩
theorem same_any (v u : Value) (ids js : List ByteArray) (w : World) (hv : PartsAt w v ids) (hu : PartsAt w u js) (hm : ids.length ≤ maxLen) :
    Calls Tryz.prog 100 #[v, u] w fun e w' => e = .returned (.bool (texB ids js)) ∧ Below w.heap.size w w' := by
  obtain ⟨a, c, rfl, hh⟩ := hv.ex
  obtain ⟨b, d, rfl, kk⟩ := hu.ex
  by_cases hL : js.length = ids.length
  · by_cases h0 : 0 < ids.length
    · obtain ⟨b1, o1, rfl, hl1, hc1⟩ := hh h0
      obtain ⟨b2, o2, rfl, hl2, hc2⟩ := kk (by omega)
      rw [hL] at hc2 ⊢
      exact same_yes b1 o1 b2 o2 c d ids js w hl1 hl2 hL hc1 hc2 hm
    · obtain rfl : ids = [] := List.length_eq_zero_iff.1 (by omega)
      obtain rfl : js = [] := List.length_eq_zero_iff.1 hL
      refine (same_zero a b c d w).mono ?_
      rintro e w' ⟨he, rfl⟩
      exact ⟨by rw [he]; simp [texB], Below.refl _ _⟩
  · refine (same_no a b ids.length js.length c d w (fun e => hL e.symm)).mono ?_
    rintro e w' ⟨he, rfl⟩
    refine ⟨?_, Below.refl _ _⟩
    rw [he]
    have : texB ids js = false := by
      unfold texB
      rw [decide_eq_false_iff_not]
      intro h; rw [h] at hL; exact hL rfl
    rw [this]
def setB (ids : List ByteArray) (n : Int) (js : List ByteArray) (m : Int) : Bool := decide (n = m) && texB ids js
set_option maxHeartbeats 1600000 in
theorem sameset_any (v u : Value) (ids js : List ByteArray) (n m : Int) (w : World) (hv : PartsAt w v ids) (hu : PartsAt w u js) (hm : ids.length ≤ maxLen) :
    Calls Tryz.prog 55 #[.agg #[v, .int .i64 n], .agg #[u, .int .i64 m]] w fun e w' => e = .returned (.bool (setB ids n js m)) ∧ Below w.heap.size w w' := by
  obtain ⟨W1, hW1⟩ : ∃ W1, w.alloc (.cells #[v, .int .i64 n] 24) = W1 := ⟨_, rfl⟩
  obtain ⟨W2, hW2⟩ : ∃ W2, W1.alloc (.cells #[u, .int .i64 m] 24) = W2 := ⟨_, rfl⟩
  have hB1 : Below w.heap.size w W1 := by rw [← hW1]; exact bel_alloc _ _
  have hB2 : Below W1.heap.size W1 W2 := by rw [← hW2]; exact bel_alloc _ _
  have hS1 : Blk W1 w.heap.size [v, .int .i64 n] 24 := by rw [← hW1]; exact Blk.new w _ _
  have hS2 : Blk W2 W1.heap.size [u, .int .i64 m] 24 := by rw [← hW2]; exact Blk.new W1 _ _
  have hS1' := hS1.below hB2 hS1.lt
  have hF := same_any v u ids js W2 ((hv.here hB1).here hB2) ((hu.here hB1).here hB2) hm
  have hB := Box.mk (mono_bel hB1 hB2 (Nat.le_refl _))
  have a0 : W2.cell? ⟨w.heap.size, 0, none⟩ = some v := hS1'.cell 0
  have a1 : W2.cell? ⟨w.heap.size, 1, none⟩ = some (.int .i64 n) := hS1'.cell 1
  obtain ⟨C, hC⟩ : ∃ C, W1.heap.size = C := ⟨_, rfl⟩
  rw [hC] at hS2
  have b0 : W2.cell? ⟨C, 0, none⟩ = some u := hS2.cell 0
  have b1 : W2.cell? ⟨C, 1, none⟩ = some (.int .i64 m) := hS2.cell 1
  obtain ⟨E, hE⟩ : ∃ E, texB ids js = E := ⟨_, rfl⟩
  rw [hE] at hF
  have hEb := Box.mk hE
  have hsv : ∃ a l c, v = .slice a l c := by
    obtain ⟨a, c, rfl, _⟩ := hv.ex; exact ⟨_, _, _, rfl⟩
  have hsu : ∃ a l c, u = .slice a l c := by
    obtain ⟨a, c, rfl, _⟩ := hu.ex; exact ⟨_, _, _, rfl⟩
  clear hv hu hB1 hB2 hS1 hS2 hS1' hE hm
  obtain ⟨a, l, c, rfl⟩ := hsv
  obtain ⟨b, k, d, rfl⟩ := hsu
  by_cases hnm : n = m
  · subst hnm
    go_enter Tryz.func55, Tryz.ntmps55
    go_wp2_with fail
    refine hF.mono ?_
    rintro e w3 ⟨rfl, hb3⟩
    have hB3 := Box.mk (mono_bel hB.out hb3 (Nat.le_refl _))
    clear hb3 hF
    go_wp2_with fail
    go_ret
    exact ⟨by rw [setB, hEb.out]; simp, hB3.out⟩
  · go_enter Tryz.func55, Tryz.ntmps55
    go_wp2_with fail
    go_ret
    exact ⟨by rw [setB]; simp [hnm], hB.out⟩
end Go.Proofs.YtiblkfkeifnpaaaGreatDoor

namespace Go.Proofs.YtiblkfkeifnpaaaGreatDoor
open Go Go.RowKit Go.Shelf

/-- A slice of signatures. -/
structure SigsAt (w : World) (v : Value) (sg : List (ByteArray × ByteArray)) : Prop where
  ex : ∃ (a : Option Addr) (cap : Nat), v = .slice a sg.length cap ∧ (0 < sg.length → ∃ blk off, a = some ⟨blk, off, none⟩ ∧ blk < w.heap.size ∧ ∀ i, i < sg.length → w.cell? ⟨blk, off + i * 2, none⟩ = some (.string (sg.getD i default).1) ∧ w.cell? ⟨blk, off + i * 2 + 1, none⟩ = some (.string (sg.getD i default).2))
theorem SigsAt.here {w w' : World} {v : Value} {sg : List (ByteArray × ByteArray)} (h : SigsAt w v sg) (hb : Below w.heap.size w w') : SigsAt w' v sg := by
  obtain ⟨a, cap, rfl, hh⟩ := h.ex
  refine ⟨a, cap, rfl, fun h0 => ?_⟩
  obtain ⟨blk, off, e, hl, hc⟩ := hh h0
  exact ⟨blk, off, e, Nat.lt_of_lt_of_le hl hb.size, fun i hi => ⟨(hb.cell (p := ⟨blk, off + i * 2, none⟩) hl).trans (hc i hi).1, (hb.cell (p := ⟨blk, off + i * 2 + 1, none⟩) hl).trans (hc i hi).2⟩⟩
set_option maxHeartbeats 1600000 in
set_option maxRecDepth 100000 in
theorem closure_any (b1 b2 : Nat) (id text i t : ByteArray) (w : World) (h1 : w.cell? ⟨b1, 0, none⟩ = some (.string id)) (h2 : w.cell? ⟨b2, 0, none⟩ = some (.string text)) (l1 : b1 < w.heap.size) (l2 : b2 < w.heap.size) (hK : KIs w) (ht : text.size ≤ 140737488351232) :
    Calls Tryz.prog 141 #[.agg #[.string i, .string t], .pointer (some ⟨b1, 0, none⟩), .pointer (some ⟨b2, 0, none⟩)] w fun e w' => e = .returned (.bool (sgnB id text (i, t))) ∧ Below w.heap.size w w' := by
  obtain ⟨W1, hW1⟩ : ∃ W1, w.alloc (.cells #[.string i, .string t] 59) = W1 := ⟨_, rfl⟩
  have hB1 : Below w.heap.size w W1 := by rw [← hW1]; exact bel_alloc _ _
  have hS1 : Blk W1 w.heap.size [.string i, .string t] 59 := by rw [← hW1]; exact Blk.new w _ _
  have c1 := (hB1.cell (p := ⟨b1, 0, none⟩) l1).trans h1
  have c2 := (hB1.cell (p := ⟨b2, 0, none⟩) l2).trans h2
  have s0 : W1.cell? ⟨w.heap.size, 0, none⟩ = some (.string i) := hS1.cell 0
  have s1 : W1.cell? ⟨w.heap.size, 1, none⟩ = some (.string t) := hS1.cell 1
  have hF := verify_any id text t W1 (hK.below hB1 hK.lt) (by omega)
  have heq : (i.toList == id.toList) = decide (i = id) := eq_toList i id
  have hres : sgnB id text (i, t) = (decide (i = id) && decide (verE id text t = 0)) := rfl
  obtain ⟨E, hE⟩ : ∃ E, verE id text t = E := ⟨_, rfl⟩
  rw [hE] at hF hres
  rw [hres]
  replace hB1 := Box.mk hB1
  clear h1 h2 l1 l2 hK ht hS1 hres hE
  by_cases hi : i = id
  · rw [show decide (i = id) = true by simpa using hi] at heq ⊢
    clear hi
    go_enter Tryz.func141, Tryz.ntmps141
    go_wp2_with fail
    refine hF.mono ?_
    rintro e w2 ⟨rfl, hb2⟩
    have hB2 := Box.mk (mono_bel hB1.out hb2 (Nat.le_refl _))
    clear hF hb2
    go_wp2_with fail
    go_ret
    exact ⟨by by_cases h : E = 0 <;> simp [h], hB2.out⟩
  · rw [show decide (i = id) = false by simpa using hi] at heq ⊢
    clear hi
    go_enter Tryz.func141, Tryz.ntmps141
    go_wp2_with fail
    go_ret
    exact ⟨by simp, hB1.out⟩
theorem index_zero (a : Option Addr) (c : Nat) (f : Value) (w : World) (hf : ∃ g l, f = .func (.func g) #[] l) :
    Calls Tryz.prog 106 #[.slice a 0 c, f] w fun e w' => e = .returned (.int .i64 (-1)) ∧ Below w.heap.size w w' := by
  obtain ⟨g, l, rfl⟩ := hf
  have hB0 : Box (Below w.heap.size w w) := ⟨Below.refl _ _⟩
  go_enter Tryz.func106, Tryz.ntmps106
  go_wp2_with fail
  go_loopw [5, 8] (fun _ q wr => q = .int .i64 0 ∧ wr = w) (fun _ _ _ => 0)
  case atStart => exact ⟨rfl, rfl⟩
  case round =>
    obtain ⟨rfl, rfl⟩ := hrel
    go_wp2_with fail
    go_ret
    exact ⟨rfl, hB0.out⟩
theorem contains_zero (a : Option Addr) (c : Nat) (f : Value) (w : World) (hf : ∃ g l, f = .func (.func g) #[] l) :
    Calls Tryz.prog 58 #[.slice a 0 c, f] w fun e w' => e = .returned (.bool false) ∧ Below w.heap.size w w' := by
  have hF := index_zero a c f w hf
  obtain ⟨g, l, rfl⟩ := hf
  go_enter Tryz.func58, Tryz.ntmps58
  go_wp2_with fail
  refine hF.mono ?_
  rintro e w2 ⟨rfl, hb2⟩
  replace hb2 := Box.mk hb2
  clear hF
  go_wp2_with fail
  go_ret
  exact ⟨rfl, hb2.out⟩
def sigC (x : ByteArray × ByteArray) : List Value := [.string x.1, .string x.2]
theorem contains_any (b1 b2 : Nat) (id text : ByteArray) (v : Value) (sg : List (ByteArray × ByteArray)) (w : World) (hv : SigsAt w v sg) (hm : sg.length ≤ maxLen) (h1 : w.cell? ⟨b1, 0, none⟩ = some (.string id)) (h2 : w.cell? ⟨b2, 0, none⟩ = some (.string text)) (l1 : b1 < w.heap.size) (l2 : b2 < w.heap.size) (hK : KIs w) (ht : text.size ≤ 140737488351232) :
    Calls Tryz.prog 58 #[v, .func (.func 141) #[] #[.pointer (some ⟨b1, 0, none⟩), .pointer (some ⟨b2, 0, none⟩)]] w fun e w' => e = .returned (.bool (sg.any (sgnB id text))) ∧ Below w.heap.size w w' := by
  obtain ⟨a, cap, rfl, hh⟩ := hv.ex
  by_cases h0 : 0 < sg.length
  · obtain ⟨blk, off, rfl, hl, hc⟩ := hh h0
    have hp : PredBelow Tryz.prog 141 #[.pointer (some ⟨b1, 0, none⟩), .pointer (some ⟨b2, 0, none⟩)] (fun x => .agg (sigC x).toArray) (sgnB id text) w := fun W x hW =>
      (closure_any b1 b2 id text x.1 x.2 W ((hW.cell (p := ⟨b1, 0, none⟩) l1).trans h1) ((hW.cell (p := ⟨b2, 0, none⟩) l2).trans h2) (Nat.lt_of_lt_of_le l1 hW.size) (Nat.lt_of_lt_of_le l2 hW.size) (hK.below hW hK.lt) ht).mono fun e w' ⟨he, hb⟩ => ⟨he, mono_bel hW hb (Nat.le_refl _)⟩
    have hbig : sg.length ≤ 9223372036854775807 := by unfold maxLen at hm; omega
    have := AnyQ.slices_ContainsFunc Tryz.containsL 2 Tryz.isAgg59 Tryz.sizeOf59 sigC (fun _ => rfl) (sgnB id text) 141 #[.pointer (some ⟨b1, 0, none⟩), .pointer (some ⟨b2, 0, none⟩)] (enters_of Tryz.func141 (by kernel_rfl) rfl) blk off sg.length cap sg w hp (Nat.le_refl _) hbig hl (fun j hj i u hi => by
      have hjd : sg[j]! = sg.getD j default := by rw [getElem!_pos sg j hj]; simp [List.getD, hj]
      rw [hjd] at hi
      obtain ⟨k1, k2⟩ := hc j hj
      match i, hi with
      | 0, hi => cases hi; exact k1
      | 1, hi => cases hi; exact k2
      | k + 2, hi => cases hi)
    rw [List.take_length] at this
    exact this
  · obtain rfl : sg = [] := List.length_eq_zero_iff.1 (by omega)
    exact contains_zero a cap _ w ⟨_, _, rfl⟩
set_option maxHeartbeats 1600000 in
theorem signed_any (id text : ByteArray) (v : Value) (sg : List (ByteArray × ByteArray)) (w : World) (hv : SigsAt w v sg) (hm : sg.length ≤ maxLen) (hK : KIs w) (ht : text.size ≤ 140737488351232) :
    Calls Tryz.prog 131 #[.string id, .string text, v] w fun e w' => e = .returned (.bool (sg.any (sgnB id text))) ∧ Below w.heap.size w w' := by
  obtain ⟨W1, hW1⟩ : ∃ W1, w.alloc (.cells #[.string id] 9) = W1 := ⟨_, rfl⟩
  obtain ⟨W2, hW2⟩ : ∃ W2, W1.alloc (.cells #[.string text] 9) = W2 := ⟨_, rfl⟩
  have hB1 : Below w.heap.size w W1 := by rw [← hW1]; exact bel_alloc _ _
  have hB2 : Below W1.heap.size W1 W2 := by rw [← hW2]; exact bel_alloc _ _
  have hS1 : Blk W1 w.heap.size [.string id] 9 := by rw [← hW1]; exact Blk.new w _ _
  have hS2 : Blk W2 W1.heap.size [.string text] 9 := by rw [← hW2]; exact Blk.new W1 _ _
  have hS1' := hS1.below hB2 hS1.lt
  have hB := mono_bel hB1 hB2 (Nat.le_refl _)
  have hF := contains_any w.heap.size W1.heap.size id text v sg W2 (hv.here hB) hm (hS1'.cell 0) (hS2.cell 0) hS1'.lt hS2.lt (hK.below hB hK.lt) ht
  obtain ⟨E, hE⟩ : ∃ E, sg.any (sgnB id text) = E := ⟨_, rfl⟩
  obtain ⟨C, hC⟩ : ∃ C, W1.heap.size = C := ⟨_, rfl⟩
  rw [hE] at hF ⊢
  rw [hC] at hF
  have hsv : ∃ a l c, v = .slice a l c := by
    obtain ⟨a, c, rfl, _⟩ := hv.ex; exact ⟨_, _, _, rfl⟩
  replace hB := Box.mk hB
  clear hv hm hK ht hB1 hB2 hS1 hS2 hS1' hE
  obtain ⟨a, l, c, rfl⟩ := hsv
  go_enter Tryz.func131, Tryz.ntmps131
  go_wp2_with fail
  refine hF.mono ?_
  rintro e w3 ⟨rfl, hb3⟩
  have hB3 := Box.mk (mono_bel hB.out hb3 (Nat.le_refl _))
  clear hb3 hF
  go_wp2_with fail
  go_ret
  exact ⟨rfl, hB3.out⟩
theorem filter_take (p : ByteArray → Bool) (ids : List ByteArray) (i : Nat) (h : i < ids.length) : (ids.take (i + 1)).filter p = (ids.take i).filter p ++ if p (ids.getD i ByteArray.empty) then [ids.getD i ByteArray.empty] else [] := by
  rw [List.take_succ_eq_append_getElem h, List.filter_append]
  have : ids.getD i ByteArray.empty = ids[i] := by simp [List.getD, h]
  rw [this]
  by_cases hp : p ids[i] <;> simp [hp]
/-- In Who's loop. -/
structure WhAt (w0 w : World) (R : List ByteArray) (v : Value) : Prop where
  row : TxR w0.heap.size w v R
  bel : Below w0.heap.size w0 w
theorem WhAt.here {w0 w w' : World} {R : List ByteArray} {v : Value} (h : WhAt w0 w R v) (hb : Below w.heap.size w w') : WhAt w0 w' R v := ⟨h.row.here hb, mono_bel h.bel hb (Nat.le_refl _)⟩
def WhoS (B : Nat) (R : List ByteArray) (e : Ending) (w' : World) : Prop := ∃ v, e = .returned v ∧ TxR B w' v R
set_option maxHeartbeats 3200000 in
set_option maxRecDepth 100000 in
theorem who_good (blk off cap : Nat) (ids : List ByteArray) (need : Int) (text : ByteArray) (sv : Value) (sg : List (ByteArray × ByteArray)) (w : World) (hb : blk < w.heap.size) (hc : ∀ i, i < ids.length → w.cell? ⟨blk, off + i, none⟩ = some (.string (ids.getD i ByteArray.empty))) (hg : chkB ids need = true)
    (hs : SigsAt w sv sg) (hm : sg.length ≤ maxLen) (hK : KIs w) (ht : text.size ≤ 140737488351232) :
    Calls Tryz.prog 117 #[.agg #[.slice (some ⟨blk, off, none⟩) ids.length cap, .int .i64 need], .string text, sv] w fun e w' => WhoS w.heap.size (whoL ids text sg) e w' ∧ Below w.heap.size w w' := by
  obtain ⟨_, _, hl16, _⟩ := (chkB_iff ids need).1 hg
  obtain ⟨W1, hW1⟩ : ∃ W1, w.alloc (.cells #[.slice (some ⟨blk, off, none⟩) ids.length cap, .int .i64 need] 24) = W1 := ⟨_, rfl⟩
  have hB1 : Below w.heap.size w W1 := by rw [← hW1]; exact bel_alloc _ _
  have hS1 : Blk W1 w.heap.size [.slice (some ⟨blk, off, none⟩) ids.length cap, .int .i64 need] 24 := by rw [← hW1]; exact Blk.new w _ _
  have hP : PartsAt W1 (.slice (some ⟨blk, off, none⟩) ids.length cap) ids := PartsAt.here ⟨_, _, rfl, fun _ => ⟨blk, off, rfl, hb, hc⟩⟩ hB1
  have hF := check_any _ ids need W1 hP (by unfold maxLen; omega)
  rw [chkE_of, hg, if_pos rfl] at hF
  have hSig := fun id w1 (h1 : Below w.heap.size w w1) => signed_any id text sv sg w1 (hs.here h1) hm (hK.below h1 hK.lt) ht
  obtain ⟨p, hp⟩ : ∃ p : ByteArray → Bool, (fun id => sg.any (sgnB id text)) = p := ⟨_, rfl⟩
  have hpe : ∀ id, sg.any (sgnB id text) = p id := fun id => by rw [← hp]
  rw [whoL, hp]
  have hst := fun i hi => filter_take p ids i hi
  obtain ⟨L, hL⟩ : ∃ L, ids.length = L := ⟨_, rfl⟩
  have hLb := Box.mk hL
  rw [hL] at hc hF hst hS1 hW1 hl16 ⊢
  have s0 : W1.cell? ⟨w.heap.size, 0, none⟩ = some (.slice (some ⟨blk, off, none⟩) L cap) := hS1.cell 0
  have s1 : W1.cell? ⟨w.heap.size, 1, none⟩ = some (.int .i64 need) := hS1.cell 1
  have hS1b := Box.mk hS1
  have hBb := Box.mk hB1
  have hbB := Box.mk hb
  replace hc := Box.mk hc
  replace hSig := Box.mk hSig
  replace hst := Box.mk hst
  replace hpe := Box.mk hpe
  have hsv : ∃ a l c, sv = .slice a l c := by
    obtain ⟨a, c, rfl, _⟩ := hs.ex; exact ⟨_, _, _, rfl⟩
  clear hg hs hm hK ht hB1 hS1 hP hL hp hb
  obtain ⟨sa, sl, sc, rfl⟩ := hsv
  go_enter Tryz.func117, Tryz.ntmps117
  go_wp2_with fail
  refine hF.mono ?_
  rintro e w2 ⟨rfl, hb2⟩
  have s2 : w2.cell? ⟨w.heap.size, 0, none⟩ = some (.slice (some ⟨blk, off, none⟩) L cap) := (hS1b.out.below hb2 hS1b.out.lt).cell 0
  have hA0 : Box (WhAt w w2 ((ids.take 0).filter p) (.slice none 0 0)) := ⟨⟨TxR.nil _ _, mono_bel hBb.out hb2 (Nat.le_refl _)⟩⟩
  clear hF hb2 s0 s1 hS1b hBb hW1
  go_wp2_with fail
  go_loopw [7, 9, 16] (fun v7 _ q wr => ∃ i : Nat, i ≤ L ∧ q = .int .i64 (i : Int) ∧ Box (WhAt w wr ((ids.take i).filter p) v7)) (fun _ _ q _ => L - (intOf q).toNat)
  case atStart => exact ⟨0, by omega, rfl, hA0⟩
  case round =>
    clear hA0 s2
    obtain ⟨i, hi, rfl, hA⟩ := hrel
    by_cases hlt : i < L
    · have hx := (hA.out.bel.cell (p := ⟨blk, off + i, none⟩) hbB.out).trans (hc.out i hlt)
      have hsti := hst.out i hlt
      obtain ⟨x, hxe⟩ : ∃ x, ids.getD i ByteArray.empty = x := ⟨_, rfl⟩
      rw [hxe] at hx hsti
      have hF := hSig.out x wr hA.out.bel
      rw [hpe.out] at hF
      obtain ⟨R, hR⟩ : ∃ R, (ids.take i).filter p = R := ⟨_, rfl⟩
      rw [hR] at hA hsti
      obtain ⟨a7, c7, e7⟩ := hA.out.row.shape
      have hRl : R.length ≤ L := by rw [← hR]; exact Nat.le_trans (List.length_filter_le _ _) (by rw [List.length_take, hLb.out]; omega)
      obtain ⟨n7, hn7⟩ : ∃ n, R.length = n := ⟨_, rfl⟩
      rw [hn7] at e7 hRl
      subst e7
      replace hn7 := Box.mk hn7
      clear hxe hR
      cases hpx : p x with
      | true =>
        rw [hpx] at hF hsti
        rw [if_pos rfl] at hsti
        replace hsti := Box.mk hsti
        go_wp2_with fail
        refine hF.mono ?_
        rintro e w3 ⟨rfl, hb3⟩
        have hA3 := Box.mk (hA.out.here hb3)
        clear hF hA hb3 hx hpx
        go_wp2_with (at_builtin; refine wpList_pushT rfl (.tmp 24) (.tmp 26) rfl w.heap.size _ R [x] rfl (hA3.out.row.here (bel_alloc _ _)) (by have := hA3.out.bel.size; simp; omega) (some ⟨w3.heap.size, 0, none⟩) 1 1 rfl rfl (parts_new w3 [x] 9) (by rw [hn7.out]; omega) ?_)
        rintro v8 w8 hp8
        have hA8 : Box (WhAt w w8 ((ids.take (i + 1)).filter p) v8) := ⟨⟨by rw [hsti.out]; exact hp8.row, hp8.bel (mono_bel hA3.out.bel (bel_alloc _ _) (Nat.le_refl _)) (hA3.out.row.here (bel_alloc _ _))⟩⟩
        clear hA3 hp8
        go_wp2_with fail
        exact ⟨⟨i + 1, by omega, by go_num, hA8⟩, by simp [intOf]; omega⟩
      | false =>
        rw [hpx] at hF hsti
        rw [if_neg (by simp), List.append_nil] at hsti
        replace hsti := Box.mk hsti
        go_wp2_with fail
        refine hF.mono ?_
        rintro e w3 ⟨rfl, hb3⟩
        have hA3 : Box (WhAt w w3 ((ids.take (i + 1)).filter p) (.slice a7 n7 c7)) := ⟨by rw [hsti.out]; exact hA.out.here hb3⟩
        clear hF hA hb3 hx hpx
        go_wp2_with fail
        exact ⟨⟨i + 1, by omega, by go_num, hA3⟩, by simp [intOf]; omega⟩
    · obtain rfl : i = L := by omega
      have hT := hA.out.row
      rw [← hLb.out, List.take_length] at hT
      obtain ⟨a7, c7, e7⟩ := hT.shape
      obtain ⟨n7, hn7⟩ : ∃ n, (ids.filter p).length = n := ⟨_, rfl⟩
      rw [hn7] at e7
      subst e7
      have hB := Box.mk hA.out.bel
      replace hT := Box.mk hT
      clear hA
      go_wp2_with fail
      go_ret
      exact ⟨⟨_, rfl, hT.out⟩, hB.out⟩
set_option maxHeartbeats 1600000 in
theorem who_any (v : Value) (ids : List ByteArray) (need : Int) (text : ByteArray) (sv : Value) (sg : List (ByteArray × ByteArray)) (w : World) (hv : PartsAt w v ids) (hl : ids.length ≤ maxLen)
    (hs : SigsAt w sv sg) (hm : sg.length ≤ maxLen) (hK : KIs w) (ht : text.size ≤ 140737488351232) :
    Calls Tryz.prog 117 #[.agg #[v, .int .i64 need], .string text, sv] w fun e w' => WhoS w.heap.size (whoE ids need text sg) e w' ∧ Below w.heap.size w w' := by
  cases hg : chkB ids need with
  | true =>
    obtain ⟨a, cap, rfl, hh⟩ := hv.ex
    obtain ⟨h1, h2, _, _⟩ := (chkB_iff ids need).1 hg
    obtain ⟨blk, off, rfl, hb, hc⟩ := hh (by omega)
    rw [whoE, hg, if_pos rfl]
    exact who_good blk off cap ids need text sv sg w hb hc hg hs hm hK ht
  | false =>
    obtain ⟨W1, hW1⟩ : ∃ W1, w.alloc (.cells #[v, .int .i64 need] 24) = W1 := ⟨_, rfl⟩
    have hB1 : Below w.heap.size w W1 := by rw [← hW1]; exact bel_alloc _ _
    have hS1 : Blk W1 w.heap.size [v, .int .i64 need] 24 := by rw [← hW1]; exact Blk.new w _ _
    have hF := check_any v ids need W1 (hv.here hB1) hl
    rw [chkE_of, hg, if_neg (by simp)] at hF
    rw [whoE, hg, if_neg (by simp)]
    have s0 : W1.cell? ⟨w.heap.size, 0, none⟩ = some v := hS1.cell 0
    have s1 : W1.cell? ⟨w.heap.size, 1, none⟩ = some (.int .i64 need) := hS1.cell 1
    have hsv : ∃ a l c, sv = .slice a l c := by
      obtain ⟨a, c, rfl, _⟩ := hs.ex; exact ⟨_, _, _, rfl⟩
    have hvv : ∃ a l c, v = .slice a l c := by
      obtain ⟨a, c, rfl, _⟩ := hv.ex; exact ⟨_, _, _, rfl⟩
    replace hB1 := Box.mk hB1
    clear hg hs hm hK ht hS1 hv hl
    obtain ⟨sa, sl, sc, rfl⟩ := hsv
    obtain ⟨va, vl, vc, rfl⟩ := hvv
    go_enter Tryz.func117, Tryz.ntmps117
    go_wp2_with fail
    refine hF.mono ?_
    rintro e w2 ⟨rfl, hb2⟩
    have hB2 := Box.mk (mono_bel hB1.out hb2 (Nat.le_refl _))
    clear hF hb2
    go_wp2_with fail
    go_ret
    exact ⟨⟨_, rfl, TxR.nil _ _⟩, hB2.out⟩
end Go.Proofs.YtiblkfkeifnpaaaGreatDoor

namespace Go.Proofs.YtiblkfkeifnpaaaGreatDoor
open Go Go.RowKit

set_option maxHeartbeats 3200000 in
set_option maxRecDepth 100000 in
theorem enough_any (v : Value) (ids : List ByteArray) (need : Int) (text : ByteArray) (sv : Value) (sg : List (ByteArray × ByteArray)) (w : World) (hv : PartsAt w v ids) (hl : ids.length ≤ maxLen)
    (hs : SigsAt w sv sg) (hm : sg.length ≤ maxLen) (hK : KIs w) (ht : text.size ≤ 140737488351232) :
    Calls Tryz.prog 71 #[.agg #[v, .int .i64 need], .string text, sv] w fun e w' => e = .returned (.bool (enB ids need text sg)) ∧ Below w.heap.size w w' := by
  obtain ⟨W1, hW1⟩ : ∃ W1, w.alloc (.cells #[v, .int .i64 need] 24) = W1 := ⟨_, rfl⟩
  have hB1 : Below w.heap.size w W1 := by rw [← hW1]; exact bel_alloc _ _
  have hB1d : Below w.heap.size w W1.drew := mono_bel hB1 (dB W1) (Nat.le_refl _)
  have hS1 : Blk W1 w.heap.size [v, .int .i64 need] 24 := by rw [← hW1]; exact Blk.new w _ _
  have hS1d : Blk W1.drew w.heap.size [v, .int .i64 need] 24 := hS1.drew
  have hF := check_any v ids need W1.drew (hv.here hB1d) hl
  have hW := fun w1 (h1 : Below w.heap.size w w1) => who_any v ids need text sv sg w1 (hv.here h1) hl (hs.here h1) hm (hK.below h1 hK.lt) ht
  have hsv : ∃ a l c, sv = .slice a l c := by
    obtain ⟨a, c, rfl, _⟩ := hs.ex; exact ⟨_, _, _, rfl⟩
  have hvv : ∃ a l c, v = .slice a l c := by
    obtain ⟨a, c, rfl, _⟩ := hv.ex; exact ⟨_, _, _, rfl⟩
  have hC1 : W1.drew.cell? ⟨w.heap.size, 0, none⟩ = some v ∧ W1.drew.cell? ⟨w.heap.size, 1, none⟩ = some (.int .i64 need) := ⟨hS1d.cell 0, hS1d.cell 1⟩
  replace hB1d := Box.mk hB1d
  replace hS1d := Box.mk hS1d
  replace hW := Box.mk hW
  replace hC1 := Box.mk hC1
  obtain ⟨B, hBe⟩ : ∃ B, w.heap.size = B := ⟨_, rfl⟩
  rw [hBe] at hC1 hS1d
  clear hs hm hK ht hS1 hv hl hB1
  obtain ⟨sa, sl, sc, rfl⟩ := hsv
  obtain ⟨va, vl, vc, rfl⟩ := hvv
  cases hg : chkB ids need with
  | true =>
    rw [chkE_of, hg, if_pos rfl] at hF
    have hen : ∀ n : Nat, (whoE ids need text sg).length = n → enB ids need text sg = decide (need ≤ (n : Int)) := fun n hn => by
      rw [enB, hg, Bool.true_and, ← hn, whoE, hg, if_pos rfl]
    replace hen := Box.mk hen
    clear hg
    go_enter Tryz.func71, Tryz.ntmps71
    go_wp2_with fail
    refine region_go (C := fun w' => w'.cell? ⟨B, 0, none⟩ = some (.slice va vl vc) ∧ w'.cell? ⟨B, 1, none⟩ = some (.int .i64 need)) rfl ?_
    refine go_calms [0] 13 rfl (by kernel_rfl) (by kernel_rfl) (by kernel_rfl) hC1.out ?_
    simp [nth]
    try simp only [Act.put, List.setIfInBounds_toArray, List.set_cons_succ, List.set_cons_zero]
    refine quiet_any rfl (.agg #[.slice va vl vc, .int .i64 need]) (fun w' hw' => by obtain ⟨k0, k1⟩ := hw'; go_simp) ?_
    simp only [Act.put, List.setIfInBounds_toArray, List.set_cons_succ, List.set_cons_zero]
    refine wpQuiet_nil ?_
    refine go_forced 1 (by kernel_rfl) (goOp_wp 1 rfl rfl (fun K hK => ?_))
    go_simp
    refine hF.mono ?_
    clear hF
    rintro e w2 ⟨rfl, hb2⟩
    have hS2 := hS1d.out.below hb2 hS1d.out.lt
    have hC2 : w2.cell? ⟨B, 0, none⟩ = some (.slice va vl vc) ∧ w2.cell? ⟨B, 1, none⟩ = some (.int .i64 need) := ⟨hS2.cell 0, hS2.cell 1⟩
    have hB2 := Box.mk (mono_bel hB1d.out hb2 (Nat.le_refl _))
    have hWF := hW.out w2 hB2.out
    refine hK _ _ hC2 ?_
    replace hS2 := Box.mk hS2
    clear hK K hb2
    refine go_calms [2, 3, 4, 5, 6, 9, 10] 5 rfl (by kernel_rfl) (by kernel_rfl) (by kernel_rfl) hC2 ?_
    simp [nth]
    try simp only [Act.put, List.setIfInBounds_toArray, List.set_cons_succ, List.set_cons_zero]
    refine quiet_any rfl (.bool true) (fun w' hw' => by go_simp) ?_
    simp only [Act.put, List.setIfInBounds_toArray, List.set_cons_succ, List.set_cons_zero]
    repeat (go_big_quiet_step (first | exact fun _ => rfl | rfl))
    refine quiet_any rfl (.agg #[.slice va vl vc, .int .i64 need]) (fun w' hw' => by obtain ⟨k0, k1⟩ := hw'; go_simp) ?_
    simp only [Act.put, List.setIfInBounds_toArray, List.set_cons_succ, List.set_cons_zero]
    repeat (go_big_quiet_step (first | exact fun _ => rfl | rfl))
    refine quiet_any rfl (.pointer (some ⟨B, 1, none⟩)) (fun w' hw' => by go_simp) ?_
    simp only [Act.put, List.setIfInBounds_toArray, List.set_cons_succ, List.set_cons_zero]
    refine quiet_any rfl (.int .i64 need) (fun w' hw' => by obtain ⟨k0, k1⟩ := hw'; go_simp) ?_
    simp only [Act.put, List.setIfInBounds_toArray, List.set_cons_succ, List.set_cons_zero]
    refine wpQuiet_nil ?_
    refine go_forced 7 (by kernel_rfl) (goOp_wp 7 rfl rfl (fun K hK => ?_))
    go_simp
    refine hWF.mono ?_
    clear hWF
    rintro e w3 ⟨⟨v3, rfl, h3⟩, hb3⟩
    obtain ⟨a3, c3, e3⟩ := h3.shape
    obtain ⟨n3, hn3⟩ : ∃ n, (whoE ids need text sg).length = n := ⟨_, rfl⟩
    rw [hn3] at e3
    subst e3
    have hS3 := hS2.out.below hb3 hS2.out.lt
    have hC3 : w3.cell? ⟨B, 0, none⟩ = some (.slice va vl vc) ∧ w3.cell? ⟨B, 1, none⟩ = some (.int .i64 need) := ⟨hS3.cell 0, hS3.cell 1⟩
    have hB3 := Box.mk (mono_bel hB2.out hb3 (Nat.le_refl _))
    have hen3 := hen.out n3 hn3
    refine hK _ _ hC3 ?_
    clear hK K hb3 h3 hn3 hS3
    obtain ⟨E, hE⟩ : ∃ E, decide (need ≤ (n3 : Int)) = E := ⟨_, rfl⟩
    rw [hE] at hen3
    replace hen3 := Box.mk hen3
    refine go_calm 8 (by kernel_rfl) rfl (by kernel_rfl) (by kernel_rfl) hC3 (yields (v := .int .i64 (n3 : Int)) rfl (fun w' hw' => by go_simp)) ?_
    refine go_calms [11, 12, 13] 0 rfl (by kernel_rfl) (by kernel_rfl) (by kernel_rfl) hC3 ?_
    simp [nth]
    try simp only [Act.put, List.setIfInBounds_toArray, List.set_cons_succ, List.set_cons_zero]
    refine quiet_any rfl (.bool E) (fun w' hw' => by go_simp) ?_
    simp only [Act.put, List.setIfInBounds_toArray, List.set_cons_succ, List.set_cons_zero]
    refine quiet_any rfl (.bool E) (fun w' hw' => by go_simp) ?_
    simp only [Act.put, List.setIfInBounds_toArray, List.set_cons_succ, List.set_cons_zero]
    repeat (go_big_quiet_step (first | exact fun _ => rfl | rfl))
    refine wpQuiet_nil ?_
    refine go_done (by kernel_rfl) ?_
    go_simp
    go_wp2_with fail
    go_ret
    exact ⟨by rw [hen3.out]; rfl, hB3.out⟩
  | false =>
    rw [chkE_of, hg, if_neg (by simp)] at hF
    have hen : Box (enB ids need text sg = false) := ⟨by rw [enB, hg, Bool.false_and]⟩
    clear hg
    go_enter Tryz.func71, Tryz.ntmps71
    go_wp2_with fail
    refine region_go (C := fun w' => w'.cell? ⟨B, 0, none⟩ = some (.slice va vl vc) ∧ w'.cell? ⟨B, 1, none⟩ = some (.int .i64 need)) rfl ?_
    refine go_calms [0] 13 rfl (by kernel_rfl) (by kernel_rfl) (by kernel_rfl) hC1.out ?_
    simp [nth]
    try simp only [Act.put, List.setIfInBounds_toArray, List.set_cons_succ, List.set_cons_zero]
    refine quiet_any rfl (.agg #[.slice va vl vc, .int .i64 need]) (fun w' hw' => by obtain ⟨k0, k1⟩ := hw'; go_simp) ?_
    simp only [Act.put, List.setIfInBounds_toArray, List.set_cons_succ, List.set_cons_zero]
    refine wpQuiet_nil ?_
    refine go_forced 1 (by kernel_rfl) (goOp_wp 1 rfl rfl (fun K hK => ?_))
    go_simp
    refine hF.mono ?_
    clear hF
    rintro e w2 ⟨rfl, hb2⟩
    have hS2 := hS1d.out.below hb2 hS1d.out.lt
    have hC2 : w2.cell? ⟨B, 0, none⟩ = some (.slice va vl vc) ∧ w2.cell? ⟨B, 1, none⟩ = some (.int .i64 need) := ⟨hS2.cell 0, hS2.cell 1⟩
    have hB2 := Box.mk (mono_bel hB1d.out hb2 (Nat.le_refl _))
    refine hK _ _ hC2 ?_
    clear hK K hb2 hS2
    refine go_calms [2, 3, 4, 5, 6, 9, 10] 5 rfl (by kernel_rfl) (by kernel_rfl) (by kernel_rfl) hC2 ?_
    simp [nth]
    try simp only [Act.put, List.setIfInBounds_toArray, List.set_cons_succ, List.set_cons_zero]
    refine quiet_any rfl (.bool false) (fun w' hw' => by go_simp) ?_
    simp only [Act.put, List.setIfInBounds_toArray, List.set_cons_succ, List.set_cons_zero]
    repeat (go_big_quiet_step (first | exact fun _ => rfl | rfl))
    refine wpQuiet_nil ?_
    refine go_calm 7 (by kernel_rfl) rfl (by kernel_rfl) (by kernel_rfl) hC2 (yields_skip rfl) ?_
    refine go_calm 8 (by kernel_rfl) rfl (by kernel_rfl) (by kernel_rfl) hC2 (yields_skip rfl) ?_
    refine go_calms [11, 12, 13] 0 rfl (by kernel_rfl) (by kernel_rfl) (by kernel_rfl) hC2 ?_
    simp [nth]
    try simp only [Act.put, List.setIfInBounds_toArray, List.set_cons_succ, List.set_cons_zero]
    repeat (go_big_quiet_step (first | exact fun _ => rfl | rfl))
    refine quiet_any rfl (.bool false) (fun w' hw' => by go_simp) ?_
    simp only [Act.put, List.setIfInBounds_toArray, List.set_cons_succ, List.set_cons_zero]
    repeat (go_big_quiet_step (first | exact fun _ => rfl | rfl))
    refine wpQuiet_nil ?_
    refine go_done (by kernel_rfl) ?_
    go_simp
    go_wp2_with fail
    go_ret
    exact ⟨by rw [hen.out]; rfl, hB2.out⟩
end Go.Proofs.YtiblkfkeifnpaaaGreatDoor

namespace Go.Proofs.YtiblkfkeifnpaaaGreatDoor
open Go Go.RowKit

theorem TxR.apart {B b : Nat} {w : World} {v : Value} {ids : List ByteArray} {cs : List Value} {t : TypeId} (h : TxR B w v ids) (hb : Blk w b cs t) (ht : t ≠ 9) : v.ownBlock ≠ some b := by
  intro e
  obtain ⟨hx, ⟨rfl, _⟩ | ⟨g, cap, cur, rfl, b1, hg, b2⟩⟩ := h
  · cases e
  · obtain rfl : g = b := by simpa [Value.ownBlock] using e
    unfold Blk at hb
    rw [hg] at hb
    simp at hb
    exact ht hb.2.symm
end Go.Proofs.YtiblkfkeifnpaaaGreatDoor

namespace Go.Proofs.YtiblkfkeifnpaaaGreatDoor
open Go Go.RowKit

end Go.Proofs.YtiblkfkeifnpaaaGreatDoor
