/- Walk of the document's SameTexts. -/
import Derived.Test.YtdnhpldcnmbncaaDoorTxR
namespace Go.Proofs.YtdnhpldcnmbncaaDoor.Bi
open Go Go.RowKit Go.Proofs.YtdnhpldcnmbncaaDoor
set_option linter.all false
theorem eq_toList (a b : ByteArray) : (a.toList == b.toList) = decide (a = b) := by
  rw [ByteArray.toList_eq, ByteArray.toList_eq, Bool.eq_iff_iff]
  simp only [beq_iff_eq, decide_eq_true_eq]
  exact ⟨fun h => ByteArray.ext (Array.ext' h), fun h => by rw [h]⟩
theorem partsHere {w w' : World} {v : Value} {ids : List ByteArray} (h : PartsAt w v ids) (hb : Below w.heap.size w w') : PartsAt w' v ids := by
  obtain ⟨a, c, e, hh⟩ := h.ex
  refine ⟨a, c, e, fun h0 => ?_⟩
  obtain ⟨blk, off, ea, hl, hc⟩ := hh h0
  exact ⟨blk, off, ea, Nat.lt_of_lt_of_le hl hb.size, fun i hi => by rw [hb.cell (p := ⟨blk, off + i, none⟩) hl]; exact hc i hi⟩

def texB (ids js : List ByteArray) : Bool := decide (ids = js)
set_option maxHeartbeats 1600000 in
set_option maxRecDepth 100000 in
theorem same_no (a b : Option Addr) (l m c d : Nat) (w : World) (h : l ≠ m) :
    Calls Tryd.prog 37 #[.slice a l c, .slice b m d] w fun e w' => e = .returned (.bool false) ∧ w' = w := by
  have h1 : ¬ (l : Int) = (m : Int) := by omega
  go_enter Tryd.func37, Tryd.ntmps37
  go_wp2_with fail
  go_ret
  exact ⟨rfl, rfl⟩
set_option maxHeartbeats 1600000 in
set_option maxRecDepth 100000 in
theorem same_yes (b1 o1 b2 o2 c d : Nat) (ids js : List ByteArray) (w : World) (hl1 : b1 < w.heap.size) (hl2 : b2 < w.heap.size) (hL : js.length = ids.length) (h1 : ∀ i, i < ids.length → w.cell? ⟨b1, o1 + i, none⟩ = some (.string (ids.getD i ByteArray.empty))) (h2 : ∀ i, i < ids.length → w.cell? ⟨b2, o2 + i, none⟩ = some (.string (js.getD i ByteArray.empty))) (hm : ids.length ≤ maxLen) :
    Calls Tryd.prog 37 #[.slice (some ⟨b1, o1, none⟩) ids.length c, .slice (some ⟨b2, o2, none⟩) ids.length d] w fun e w' => e = .returned (.bool (texB ids js)) ∧ Below w.heap.size w w' := by
  obtain ⟨L, hLe⟩ : ∃ L, ids.length = L := ⟨_, rfl⟩
  have hne : ∀ i, i < L → ids.getD i ByteArray.empty ≠ js.getD i ByteArray.empty → texB ids js = false := fun i hi e => by
    unfold texB
    rw [decide_eq_false_iff_not]
    intro h; rw [h] at e; exact e rfl
  have hall : (∀ i, i < L → ids.getD i ByteArray.empty = js.getD i ByteArray.empty) → texB ids js = true := fun h => by
    unfold texB
    rw [decide_eq_true_eq]
    apply List.ext_getElem (by omega)
    intro i k1 k2
    have := h i (by omega)
    simpa [List.getD, k1, k2] using this
  rw [hLe] at h1 h2 hm ⊢
  unfold maxLen at hm
  obtain ⟨E, hE⟩ : ∃ E, texB ids js = E := ⟨_, rfl⟩
  rw [hE] at hne hall ⊢
  replace h1 := Box.mk h1
  replace h2 := Box.mk h2
  replace hne := Box.mk hne
  replace hall := Box.mk hall
  have hB0 : Box (Below w.heap.size w w) := ⟨Below.refl _ _⟩
  have l1 := Box.mk hl1
  have l2 := Box.mk hl2
  clear hE hLe hL hl1 hl2
  go_enter Tryd.func37, Tryd.ntmps37
  go_wp2_with fail
  go_loopw [5] (fun q wr => ∃ i : Nat, i ≤ L ∧ q = .int .i64 (i : Int) ∧ Box (∀ j, j < i → ids.getD j ByteArray.empty = js.getD j ByteArray.empty) ∧ Box (Below w.heap.size w wr)) (fun q _ => L - (intOf q).toNat)
  case atStart => exact ⟨0, by omega, rfl, ⟨fun j hj => by omega⟩, hB0⟩
  case round =>
    clear hB0
    obtain ⟨i, hi, rfl, hA, hB⟩ := hrel
    by_cases hlt : i < L
    · have hx := (hB.out.cell (p := ⟨b1, o1 + i, none⟩) l1.out).trans (h1.out i hlt)
      have hy := (hB.out.cell (p := ⟨b2, o2 + i, none⟩) l2.out).trans (h2.out i hlt)
      have hnei := hne.out i hlt
      obtain ⟨x, hxe⟩ : ∃ x, ids.getD i ByteArray.empty = x := ⟨_, rfl⟩
      obtain ⟨y, hye⟩ : ∃ y, js.getD i ByteArray.empty = y := ⟨_, rfl⟩
      rw [hxe, hye] at hnei
      rw [hxe] at hx
      rw [hye] at hy
      have hii : (i : Int) < (L : Int) := by omega
      replace hnei := Box.mk hnei
      replace hxe := Box.mk hxe
      replace hye := Box.mk hye
      have heq : (x.toList == y.toList) = decide (x = y) := eq_toList x y
      by_cases hxy : x = y
      · rw [show decide (x = y) = true by simpa using hxy] at heq
        have hA2 : Box (∀ j, j < i + 1 → ids.getD j ByteArray.empty = js.getD j ByteArray.empty) := ⟨fun j hj => by
          by_cases e : j = i
          · subst e; rw [hxe.out, hye.out]; exact hxy
          · exact hA.out j (by omega)⟩
        have hq : (x.toList != y.toList) = false := by rw [bne, heq]; rfl
        clear hxy
        go_wp2_with fail
        go_quiet (fail)
        have hB2 : Box (Below w.heap.size w (wr.drewN nq)) := ⟨hB.out.trans (Drawn.below ⟨nq, rfl⟩)⟩
        clear hB hx hy hA
        go_wp2_with fail
        exact ⟨⟨i + 1, by omega, by go_num, hA2, hB2⟩, by simp [intOf]; omega⟩
      · rw [show decide (x = y) = false by simpa using hxy] at heq
        have hEf : Box (E = false) := ⟨hnei.out hxy⟩
        have hq : (x.toList != y.toList) = true := by rw [bne, heq]; rfl
        clear hxy
        go_wp2_with fail
        go_quiet (fail)
        have hB2 : Box (Below w.heap.size w (wr.drewN nq)) := ⟨hB.out.trans (Drawn.below ⟨nq, rfl⟩)⟩
        clear hB hx hy hA
        go_wp2_with fail
        go_ret
        exact ⟨by rw [hEf.out]; rfl, hB2.out⟩
    · obtain rfl : i = L := by omega
      have hEt : Box (E = true) := ⟨hall.out hA.out⟩
      go_wp2_with fail
      go_ret
      exact ⟨by rw [hEt.out]; rfl, hB.out⟩
theorem same_zero (a b : Option Addr) (c d : Nat) (w : World) :
    Calls Tryd.prog 37 #[.slice a 0 c, .slice b 0 d] w fun e w' => e = .returned (.bool true) ∧ w' = w := by
  go_enter Tryd.func37, Tryd.ntmps37
  go_wp2_with fail
  go_loopw [5] (fun q wr => q = .int .i64 0 ∧ wr = w) (fun _ _ => 0)
  case atStart => exact ⟨rfl, rfl⟩
  case round =>
    obtain ⟨rfl, rfl⟩ := hrel
    go_wp2_with fail
    go_ret
    exact ⟨rfl, rfl⟩
theorem same_any (v u : Value) (ids js : List ByteArray) (w : World) (hv : PartsAt w v ids) (hu : PartsAt w u js) (hm : ids.length ≤ maxLen) :
    Calls Tryd.prog 37 #[v, u] w fun e w' => e = .returned (.bool (texB ids js)) ∧ Below w.heap.size w w' := by
  obtain ⟨a, c, rfl, hh⟩ := hv.ex
  obtain ⟨b, d, rfl, kk⟩ := hu.ex
  by_cases hL : js.length = ids.length
  · by_cases h0 : 0 < ids.length
    · obtain ⟨b1, o1, rfl, hl1, hc1⟩ := hh h0
      obtain ⟨b2, o2, rfl, hl2, hc2⟩ := kk (by omega)
      rw [hL] at hc2 ⊢
      exact same_yes b1 o1 b2 o2 c d ids js w hl1 hl2 hL hc1 hc2 hm
    · obtain rfl : ids = [] := List.length_eq_zero_iff.1 (by omega)
      obtain rfl : js = [] := List.length_eq_zero_iff.1 hL
      refine (same_zero a b c d w).mono ?_
      rintro e w' ⟨he, rfl⟩
      exact ⟨by rw [he]; simp [texB], Below.refl _ _⟩
  · refine (same_no a b ids.length js.length c d w (fun e => hL e.symm)).mono ?_
    rintro e w' ⟨he, rfl⟩
    refine ⟨?_, Below.refl _ _⟩
    rw [he]
    have : texB ids js = false := by
      unfold texB
      rw [decide_eq_false_iff_not]
      intro h; rw [h] at hL; exact hL rfl
    rw [this]
end Go.Proofs.YtdnhpldcnmbncaaDoor.Bi
