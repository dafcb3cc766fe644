/- Walk of the document's SameTexts. | Bills: the document's Same; the law's example. | Walk of the law BillMakes. -/
import Derived.Test.YtdnhpldcnmbncaaDoorTxR
import Derived.Test.YtdnhpldcnmbncaaDoorMBb
namespace Go.Proofs.YtdnhpldcnmbncaaDoor.Bi
open Go Go.RowKit Go.Proofs.YtdnhpldcnmbncaaDoor
set_option linter.all false
theorem eq_toList (a b : ByteArray) : (a.toList == b.toList) = decide (a = b) := by
  rw [ByteArray.toList_eq, ByteArray.toList_eq, Bool.eq_iff_iff]
  simp only [beq_iff_eq, decide_eq_true_eq]
  exact ⟨fun h => ByteArray.ext (Array.ext' h), fun h => by rw [h]⟩
theorem partsHere {w w' : World} {v : Value} {ids : List ByteArray} (h : PartsAt w v ids) (hb : Below w.heap.size w w') : PartsAt w' v ids := by
  obtain ⟨a, c, e, hh⟩ := h.ex
  refine ⟨a, c, e, fun h0 => ?_⟩
  obtain ⟨blk, off, ea, hl, hc⟩ := hh h0
  exact ⟨blk, off, ea, Nat.lt_of_lt_of_le hl hb.size, fun i hi => by rw [hb.cell (p := ⟨blk, off + i, none⟩) hl]; exact hc i hi⟩

def texB (ids js : List ByteArray) : Bool := decide (ids = js)
set_option maxHeartbeats 1600000 in
set_option maxRecDepth 100000 in
theorem same_no (a b : Option Addr) (l m c d : Nat) (w : World) (h : l ≠ m) :
    Calls Tryd.prog 37 #[.slice a l c, .slice b m d] w fun e w' => e = .returned (.bool false) ∧ w' = w := by
  have h1 : ¬ (l : Int) = (m : Int) := by omega
  go_enter Tryd.func37, Tryd.ntmps37
  go_wp2_with fail
  go_ret
  exact ⟨rfl, rfl⟩
set_option maxHeartbeats 1600000 in
set_option maxRecDepth 100000 in
theorem same_yes (b1 o1 b2 o2 c d : Nat) (ids js : List ByteArray) (w : World) (hl1 : b1 < w.heap.size) (hl2 : b2 < w.heap.size) (hL : js.length = ids.length) (h1 : ∀ i, i < ids.length → w.cell? ⟨b1, o1 + i, none⟩ = some (.string (ids.getD i ByteArray.empty))) (h2 : ∀ i, i < ids.length → w.cell? ⟨b2, o2 + i, none⟩ = some (.string (js.getD i ByteArray.empty))) (hm : ids.length ≤ maxLen) :
    Calls Tryd.prog 37 #[.slice (some ⟨b1, o1, none⟩) ids.length c, .slice (some ⟨b2, o2, none⟩) ids.length d] w fun e w' => e = .returned (.bool (texB ids js)) ∧ Below w.heap.size w w' := by
  obtain ⟨L, hLe⟩ : ∃ L, ids.length = L := ⟨_, rfl⟩
  have hne : ∀ i, i < L → ids.getD i ByteArray.empty ≠ js.getD i ByteArray.empty → texB ids js = false := fun i hi e => by
    unfold texB
    rw [decide_eq_false_iff_not]
    intro h; rw [h] at e; exact e rfl
  have hall : (∀ i, i < L → ids.getD i ByteArray.empty = js.getD i ByteArray.empty) → texB ids js = true := fun h => by
    unfold texB
    rw [decide_eq_true_eq]
    apply List.ext_getElem (by omega)
    intro i k1 k2
    have := h i (by omega)
    simpa [List.getD, k1, k2] using this
  rw [hLe] at h1 h2 hm ⊢
  unfold maxLen at hm
  obtain ⟨E, hE⟩ : ∃ E, texB ids js = E := ⟨_, rfl⟩
  rw [hE] at hne hall ⊢
  replace h1 := Box.mk h1
  replace h2 := Box.mk h2
  replace hne := Box.mk hne
  replace hall := Box.mk hall
  have hB0 : Box (Below w.heap.size w w) := ⟨Below.refl _ _⟩
  have l1 := Box.mk hl1
  have l2 := Box.mk hl2
  clear hE hLe hL hl1 hl2
  go_enter Tryd.func37, Tryd.ntmps37
  go_wp2_with fail
  go_loopw [5] (fun q wr => ∃ i : Nat, i ≤ L ∧ q = .int .i64 (i : Int) ∧ Box (∀ j, j < i → ids.getD j ByteArray.empty = js.getD j ByteArray.empty) ∧ Box (Below w.heap.size w wr)) (fun q _ => L - (intOf q).toNat)
  case atStart => exact ⟨0, by omega, rfl, ⟨fun j hj => by omega⟩, hB0⟩
  case round =>
    clear hB0
    obtain ⟨i, hi, rfl, hA, hB⟩ := hrel
    by_cases hlt : i < L
    · have hx := (hB.out.cell (p := ⟨b1, o1 + i, none⟩) l1.out).trans (h1.out i hlt)
      have hy := (hB.out.cell (p := ⟨b2, o2 + i, none⟩) l2.out).trans (h2.out i hlt)
      have hnei := hne.out i hlt
      obtain ⟨x, hxe⟩ : ∃ x, ids.getD i ByteArray.empty = x := ⟨_, rfl⟩
      obtain ⟨y, hye⟩ : ∃ y, js.getD i ByteArray.empty = y := ⟨_, rfl⟩
      rw [hxe, hye] at hnei
      rw [hxe] at hx
      rw [hye] at hy
      have hii : (i : Int) < (L : Int) := by omega
      replace hnei := Box.mk hnei
      replace hxe := Box.mk hxe
      replace hye := Box.mk hye
      have heq : (x.toList == y.toList) = decide (x = y) := eq_toList x y
      by_cases hxy : x = y
      · rw [show decide (x = y) = true by simpa using hxy] at heq
        have hA2 : Box (∀ j, j < i + 1 → ids.getD j ByteArray.empty = js.getD j ByteArray.empty) := ⟨fun j hj => by
          by_cases e : j = i
          · subst e; rw [hxe.out, hye.out]; exact hxy
          · exact hA.out j (by omega)⟩
        have hq : (x.toList != y.toList) = false := by rw [bne, heq]; rfl
        clear hxy
        go_wp2_with fail
        go_quiet (fail)
        have hB2 : Box (Below w.heap.size w (wr.drewN nq)) := ⟨hB.out.trans (Drawn.below ⟨nq, rfl⟩)⟩
        clear hB hx hy hA
        go_wp2_with fail
        exact ⟨⟨i + 1, by omega, by go_num, hA2, hB2⟩, by simp [intOf]; omega⟩
      · rw [show decide (x = y) = false by simpa using hxy] at heq
        have hEf : Box (E = false) := ⟨hnei.out hxy⟩
        have hq : (x.toList != y.toList) = true := by rw [bne, heq]; rfl
        clear hxy
        go_wp2_with fail
        go_quiet (fail)
        have hB2 : Box (Below w.heap.size w (wr.drewN nq)) := ⟨hB.out.trans (Drawn.below ⟨nq, rfl⟩)⟩
        clear hB hx hy hA
        go_wp2_with fail
        go_ret
        exact ⟨by rw [hEf.out]; rfl, hB2.out⟩
    · obtain rfl : i = L := by omega
      have hEt : Box (E = true) := ⟨hall.out hA.out⟩
      go_wp2_with fail
      go_ret
      exact ⟨by rw [hEt.out]; rfl, hB.out⟩
theorem same_zero (a b : Option Addr) (c d : Nat) (w : World) :
    Calls Tryd.prog 37 #[.slice a 0 c, .slice b 0 d] w fun e w' => e = .returned (.bool true) ∧ w' = w := by
  go_enter Tryd.func37, Tryd.ntmps37
  go_wp2_with fail
  go_loopw [5] (fun q wr => q = .int .i64 0 ∧ wr = w) (fun _ _ => 0)
  case atStart => exact ⟨rfl, rfl⟩
  case round =>
    obtain ⟨rfl, rfl⟩ := hrel
    go_wp2_with fail
    go_ret
    exact ⟨rfl, rfl⟩
theorem same_any (v u : Value) (ids js : List ByteArray) (w : World) (hv : PartsAt w v ids) (hu : PartsAt w u js) (hm : ids.length ≤ maxLen) :
    Calls Tryd.prog 37 #[v, u] w fun e w' => e = .returned (.bool (texB ids js)) ∧ Below w.heap.size w w' := by
  obtain ⟨a, c, rfl, hh⟩ := hv.ex
  obtain ⟨b, d, rfl, kk⟩ := hu.ex
  by_cases hL : js.length = ids.length
  · by_cases h0 : 0 < ids.length
    · obtain ⟨b1, o1, rfl, hl1, hc1⟩ := hh h0
      obtain ⟨b2, o2, rfl, hl2, hc2⟩ := kk (by omega)
      rw [hL] at hc2 ⊢
      exact same_yes b1 o1 b2 o2 c d ids js w hl1 hl2 hL hc1 hc2 hm
    · obtain rfl : ids = [] := List.length_eq_zero_iff.1 (by omega)
      obtain rfl : js = [] := List.length_eq_zero_iff.1 hL
      refine (same_zero a b c d w).mono ?_
      rintro e w' ⟨he, rfl⟩
      exact ⟨by rw [he]; simp [texB], Below.refl _ _⟩
  · refine (same_no a b ids.length js.length c d w (fun e => hL e.symm)).mono ?_
    rintro e w' ⟨he, rfl⟩
    refine ⟨?_, Below.refl _ _⟩
    rw [he]
    have : texB ids js = false := by
      unfold texB
      rw [decide_eq_false_iff_not]
      intro h; rw [h] at hL; exact hL rfl
    rw [this]
end Go.Proofs.YtdnhpldcnmbncaaDoor.Bi

namespace Go.Proofs.YtdnhpldcnmbncaaDoor.Bi
open Go Go.RowKit Go.Proofs.YtdnhpldcnmbncaaDoor
set_option linter.all false

set_option maxHeartbeats 1600000 in
set_option maxRecDepth 100000 in
theorem same15_any (v s c : Int) (h t : ByteArray) (x y : Value) (l : List ByteArray) (w : World) (hx : PartsAt w x l) (hy : PartsAt w y l) (hm : l.length ≤ maxLen) :
    Calls Tryd.prog 10 #[.agg #[.int .i64 v, .int .i64 s, .int .i64 c, .string h, .string t, x], .agg #[.int .i64 v, .int .i64 s, .int .i64 c, .string h, .string t, y]] w fun e w' => e = .returned (.bool true) ∧ Below w.heap.size w w' := by
  have hA := BAt.new w v s c h t x
  have hb1 := bel_alloc w (.cells #[.int .i64 v, .int .i64 s, .int .i64 c, .string h, .string t, x] 25)
  obtain ⟨w1, hw1⟩ : ∃ W, w.alloc (.cells #[.int .i64 v, .int .i64 s, .int .i64 c, .string h, .string t, x] 25) = W := ⟨_, rfl⟩
  rw [hw1] at hA hb1
  have hB := BAt.new w1 v s c h t y
  have hb2 := bel_alloc w1 (.cells #[.int .i64 v, .int .i64 s, .int .i64 c, .string h, .string t, y] 25)
  replace hA := hA.here hb2
  have hb := Box.mk (mono_bel hb1 hb2 (Nat.le_refl _))
  obtain ⟨w2, hw2⟩ : ∃ W, w1.alloc (.cells #[.int .i64 v, .int .i64 s, .int .i64 c, .string h, .string t, y] 25) = W := ⟨_, rfl⟩
  rw [hw2] at hA hB hb
  obtain ⟨g1, hg1⟩ : ∃ g, w.heap.size = g := ⟨_, rfl⟩
  obtain ⟨g2, hg2⟩ : ∃ g, w1.heap.size = g := ⟨_, rfl⟩
  rw [hg1] at hA
  rw [hg2] at hB
  obtain ⟨q0, q1, q2, q3, q4, q5⟩ := hA.cells
  obtain ⟨r0, r1, r2, r3, r4, r5⟩ := hB.cells
  have e1 : (h.toList == h.toList) = true := by simp
  have e2 : (t.toList == t.toList) = true := by simp
  have h1 := same_any x y l l w2 (partsHere hx hb.out) (partsHere hy hb.out) hm
  rw [show texB l l = true by simp [texB]] at h1
  clear hA hB hb1 hb2 hx hy
  go_enter Tryd.func10, Tryd.ntmps10
  go_wp2_with fail
  refine h1.mono ?_
  clear h1
  rintro e w3 ⟨rfl, hb3⟩
  replace hb := Box.mk (mono_bel hb.out hb3 (Nat.le_refl _))
  go_wp2_with fail
  go_ret
  exact ⟨rfl, by first | exact hb.out | exact hg1 ▸ hb.out⟩
theorem own_zeros {w : World} {v : Value} (n : Nat) (h : w.ownsRow 0 5 1 v n (List.replicate n (.int .u8 0))) : Pk.Own w v (List.replicate n 0) := by
  unfold Pk.Own
  rw [List.length_replicate, List.map_replicate]
  exact h
set_option maxHeartbeats 3200000 in
set_option maxRecDepth 100000 in
theorem bills_any (w : World) (hK : KIs w) :
    Calls Tryd.prog 7 #[] w fun e w' => e = .returned (.bool true) ∧ Below w.heap.size w w' := by
  obtain ⟨i0, hi0, hz0, hz1, hz2⟩ := info_parts Pk.info5
  have hH := Box.mk (And.intro hi0 (And.intro hz0 (And.intro hz1 hz2)))
  clear hi0 hz0 hz1 hz2
  replace hK := Box.mk hK
  go_enter Tryd.func7, Tryd.ntmps7
  go_wp2_with (at_make; refine wpList_make_full _ rfl (.const (.int .i64 100)) (.const (.int .i64 100)) 43 rfl 0 5 i0 (.int .u8 0) 1 Tryd.underlying43 hH.out.1 hH.out.2.1 hH.out.2.2.1 .i64 .i64 _ _ 100 rfl rfl rfl rfl (by rw [hH.out.2.2.2]; omega) (by unfold maxLen; omega) (Nat.zero_le _) ?_; intro w4 hown hg; replace hown := Box.mk hown; replace hg := Box.mk hg; have hO := own_zeros 100 (show w4.ownsRow 0 5 1 (.slice (some ⟨w.heap.size, 0, none⟩) 100 100) 100 (List.replicate 100 (.int .u8 0)) from (by have h := hown.out; rw [show (madeCells (Value.int .u8 0).cells (100 * 1)).toList = List.replicate 100 (.int .u8 0) by kernel_rfl] at h; exact h)); have hcv := Pk.own_text hO; clear hO; obtain ⟨Z, hZ⟩ : ∃ Z : ByteArray, (⟨(List.replicate 100 (0 : UInt8)).toArray⟩ : ByteArray) = Z := ⟨_, rfl⟩; have hZs : Box (Z.size = 100) := ⟨by rw [← hZ]; rfl⟩; rw [hZ] at hcv; clear hZ)
  have hb4 := Box.mk (show Below w.heap.size w w4 from ⟨hg.out.os, hg.out.tape, hg.out.output, hg.out.size, fun k hk => hg.out.block k hk (by simp)⟩)
  have hn : numB 3 (Z.size : Int) 64 = true := by rw [hZs.out]; decide
  have hm : cntI (Z.size : Int) 64 = ((2 : Nat) : Int) := by rw [hZs.out]; decide
  have h1 := (make_any 3 64 Z w4 (hK.out.below hb4.out hK.out.lt) (by rw [hZs.out]; omega)).mono fun e w' h => h.1 hn
  have hgood := mk_good hn hm
  have hll := mkL_len (64 : Int).toNat Z 2
  have h32 := chk_32 hgood
  rw [hm, Int.toNat_natCast] at h1
  rw [hZs.out] at h1 hgood
  obtain ⟨L, hL⟩ : ∃ L, mkL (64 : Int).toNat Z 2 = L := ⟨_, rfl⟩
  rw [hL] at h1 hgood hll h32
  obtain ⟨H, hHe⟩ : ∃ H, hashOf Z.data.toList = H := ⟨_, rfl⟩
  rw [hHe] at h1 hgood h32
  obtain ⟨R, hR⟩ : ∃ R, rootL L = R := ⟨_, rfl⟩
  rw [hR] at h1 hgood h32
  have hcn : cnM 3 100 64 H R L = 2 := by
    have := (cn_yes hgood).1
    have h2 : cntI 100 64 = 2 := by decide
    rw [show (((100 : Nat) : Int)) = 100 from rfl] at this
    omega
  obtain ⟨hT, hI⟩ := leafT_yes hgood
  rw [show (((100 : Nat) : Int)) = 100 from rfl] at hT hI
  have hTs : (leafT 3 100 64 H R L).size = 71 := by
    rw [hT]
    show (leafL 3 100 64 H R).toArray.size = 71
    rw [List.size_toArray, leafL_len h32.1 h32.2]
  unfold BilIs at h1
  clear hL hHe hR hT hZs hcv hown hg hH hgood hn hm h32
  obtain ⟨T, hTe⟩ : ∃ T, leafT 3 100 64 H R L = T := ⟨_, rfl⟩
  rw [hTe] at hTs
  go_wp2_with fail
  refine h1.mono ?_
  clear h1
  rintro e w5 ⟨y, rfl, hT5, hb5⟩
  obtain ⟨a, k, rfl⟩ := hT5.shape
  rw [hll] at hT5 ⊢
  rw [show (((100 : Nat) : Int)) = 100 from rfl]
  have hb6 := mono_bel (mono_bel hb4.out hb5 (Nat.le_refl _)) (bel_alloc w5 (.cells #[.int .i64 3, .int .i64 100, .int .i64 64, .string H, .string R, .slice a 2 k] 25)) (Nat.le_refl _)
  have hA := BAt.new w5 3 100 64 H R (.slice a 2 k)
  have hP := txPA (hT5.here (bel_alloc w5 (.cells #[.int .i64 3, .int .i64 100, .int .i64 64, .string H, .string R, .slice a 2 k] 25))) hll
  have h1 := bcut_any 3 100 64 1 H R a 2 k L _ hP (hK.out.below hb6 hK.out.lt)
  rw [hcn, show cutP 100 64 2 1 = (64, 100) by decide] at h1
  dsimp only at h1
  obtain ⟨g, hg⟩ : ∃ g, w5.heap.size = g := ⟨_, rfl⟩
  rw [hg] at hA
  replace hA := Box.mk hA
  replace hP := Box.mk hP
  replace hb6 := Box.mk hb6
  replace hcn := Box.mk hcn
  replace hI := Box.mk hI
  replace hTe := Box.mk hTe
  clear hT5 hb5 hb4 hll
  go_wp2_with fail
  refine h1.mono ?_
  clear h1 hg
  rintro e w7 ⟨rfl, hb7⟩
  replace hA := Box.mk (hA.out.here hb7)
  replace hP := Box.mk (hP.out.here hb7)
  replace hb6 := Box.mk (mono_bel hb6.out hb7 (Nat.le_refl _))
  clear hb7
  obtain ⟨q0, q1, q2, q3, q4, q5⟩ := hA.out.cells
  have h1 := bleaf_any 3 100 64 H R a 2 k L w7 hP.out (hK.out.below hb6.out hK.out.lt)
  rw [hI.out, hTe.out] at h1
  go_wp2_with fail
  refine h1.mono ?_
  clear h1 q0 q1 q2 q3 q4 q5
  rintro e w8 ⟨rfl, hb7⟩
  replace hA := Box.mk (hA.out.here hb7)
  replace hP := Box.mk (hP.out.here hb7)
  replace hb6 := Box.mk (mono_bel hb6.out hb7 (Nat.le_refl _))
  clear hb7
  obtain ⟨q0, q1, q2, q3, q4, q5⟩ := hA.out.cells
  have h1 := bcount_any 3 100 64 H R a 2 k L w8 hP.out (hK.out.below hb6.out hK.out.lt)
  rw [hcn.out] at h1
  go_wp2_with fail
  refine h1.mono ?_
  clear h1 q0 q1 q2 q3 q4 q5
  rintro e w9 ⟨rfl, hb7⟩
  replace hb6 := Box.mk (mono_bel hb6.out hb7 (Nat.le_refl _))
  go_wp2_with fail
  go_ret
  exact ⟨rfl, hb6.out⟩
end Go.Proofs.YtdnhpldcnmbncaaDoor.Bi

namespace Go.Proofs.YtdnhpldcnmbncaaDoor.Bi
open Go Go.RowKit Go.Proofs.YtdnhpldcnmbncaaDoor
set_option linter.all false

theorem txput {B : Nat} {w : World} {g n c : Nat} {ids : List ByteArray} (h : TxR B w (.slice (some ⟨g, 0, none⟩) n c) ids) (hn : ids.length = n) (j : Nat) (x : ByteArray) : TxR B (w.setCell ⟨g, j, none⟩ (.string x)) (.slice (some ⟨g, 0, none⟩) n c) (ids.set j x) := by
  have hr : Pk.Row w 9 1 (.slice (some ⟨g, 0, none⟩) n c) n (ids.map Value.string) := by
    have := h.base (Nat.zero_le _)
    rw [← hn] at this ⊢
    exact this
  refine TxR.of_row ?_ fun k hk => (h.own k hk).1
  rw [List.length_set, hn, List.map_set]
  obtain ⟨hx, ⟨h0, _⟩ | ⟨g2, cap, cur, e1, b1, hg, k1, k2, k3, k4⟩⟩ := hr
  · cases h0
  · cases e1
    refine ⟨by rw [List.length_set]; exact hx, .inr ⟨g, c, cur.setIfInBounds j (.string x), rfl, b1, heap_setCell_same w g j cur _ _ hg, k1, k2, by simpa using k3, ?_⟩⟩
    rw [Array.toList_setIfInBounds, List.take_set, k4]
theorem txsome {B : Nat} {w : World} {a : Option Addr} {n c : Nat} {ids : List ByteArray} (h : TxR B w (.slice a n c) ids) (hn : 0 < n) (hl : ids.length = n) : ∃ g, a = Option.some ⟨g, 0, none⟩ ∧ B ≤ g ∧ ∀ j, j < n → ∃ x, w.cell? ⟨g, j, none⟩ = Option.some (.string x) ∧ w.frozen? ⟨g, j, none⟩ = false := by
  have hr : Pk.Row w 9 1 (.slice a n c) n (ids.map Value.string) := by
    have := h.base (Nat.zero_le _)
    rw [← hl] at this ⊢
    exact this
  have hr2 := hr
  obtain ⟨_, ⟨_, h0⟩ | ⟨g, cap, cur, e, _, hg, _⟩⟩ := hr2
  · omega
  · cases e
    refine ⟨g, rfl, (h.own g rfl).1, fun j hj => ⟨ids[j]'(by omega), hr.cells _ _ (by simp), frozen_of_row w g j cur _ hg⟩⟩
/-- Two bills alike beside each other, each with its row. -/
structure M2 (w0 : World) (ga gb : Nat) (v s c : Int) (h t : ByteArray) (x y : Value) (La Lb : List ByteArray) (w : World) : Prop where
  a : BAt w ga v s c h t x
  b : BAt w gb v s c h t y
  ra : TxR w0.heap.size w x La
  rb : TxR w0.heap.size w y Lb
  ap : ∀ k, x.ownBlock = some k → y.ownBlock ≠ some k
  bel : Below w0.heap.size w0 w
section
variable {w0 w w2 : World} {ga gb : Nat} {v s c : Int} {h t : ByteArray} {x y : Value} {La Lb : List ByteArray}
theorem M2.here (hM : M2 w0 ga gb v s c h t x y La Lb w) (hb : Below w.heap.size w w2) : M2 w0 ga gb v s c h t x y La Lb w2 :=
  ⟨hM.a.here hb, hM.b.here hb, hM.ra.here hb, hM.rb.here hb, hM.ap, mono_bel hM.bel hb (Nat.le_refl _)⟩
theorem M2.spoil {g n k : Nat} (hM : M2 w0 ga gb v s c h t (.slice (some ⟨g, 0, none⟩) n k) y La Lb w) (hn : La.length = n) (j : Nat) (z : ByteArray) : M2 w0 ga gb v s c h t (.slice (some ⟨g, 0, none⟩) n k) y (La.set j z) Lb (w.setCell ⟨g, j, none⟩ (.string z)) := by
  have hc : Pk.Chg (fun i => i = g) w (w.setCell ⟨g, j, none⟩ (.string z)) := (Pk.Chg.refl (fun i => i = g) w).setCell (p := ⟨g, j, none⟩) rfl _
  have h1 : (Value.slice (some ⟨g, 0, none⟩) n k).ownBlock ≠ some ga := Pk.Row.apart (hM.ra.base (Nat.zero_le _)) hM.a (by decide)
  have h2 : (Value.slice (some ⟨g, 0, none⟩) n k).ownBlock ≠ some gb := Pk.Row.apart (hM.ra.base (Nat.zero_le _)) hM.b (by decide)
  refine ⟨hc.blk hM.a (fun e => h1 (by rw [e]; rfl)), hc.blk hM.b (fun e => h2 (by rw [e]; rfl)), txput hM.ra hn j z, hM.rb.chg hc fun q hq e => hM.ap g rfl (by rw [hq, e]), hM.ap, hM.bel.trans (hc.below hM.bel.size fun _ hi => hi ▸ (hM.ra.own g rfl).1)⟩
end
/-- One bill for both: of good numbers the made one, else the zero bill. -/
theorem mk_one (v c : Int) (x : ByteArray) : ∃ (V S C : Int) (H R : ByteArray) (L : List ByteArray) (er : Int), (∀ y ∈ L, y.size = 32) ∧ L.length ≤ 128 ∧ ∀ w e w', mkIs v c x w e w' → BilIs V S C H R L er w e w' := by
  cases hn : numB v x.size c with
  | true =>
    obtain ⟨m, hm, h1, h2, _⟩ := cnt_nat hn
    refine ⟨v, x.size, c, hashOf x.data.toList, rootL (mkL c.toNat x m), mkL c.toNat x m, 0, mkL_32 _ _ _, by rw [mkL_len]; exact h2, fun w e w' h => ?_⟩
    have := h.1 hn
    rw [hm, Int.toNat_natCast] at this
    exact this
  | false => exact ⟨0, 0, 0, ⟨#[]⟩, ⟨#[]⟩, [], 1, fun y hy => (by cases hy), Nat.zero_le _, fun w e w' h => h.2 hn⟩
theorem bel_of {w0 w w2 : World} (h1 : Below w0.heap.size w0 w) (h2 : Below w.heap.size w w2) : Below w0.heap.size w0 w2 := mono_bel h1 h2 (Nat.le_refl _)
set_option maxHeartbeats 6400000 in
set_option maxRecDepth 100000 in
theorem law_makes (v c : Int) (x : ByteArray) (w : World) (hK : KIs w) (hx : x.size ≤ 140737488354000) :
    Calls Tryd.prog 3 #[.int .i64 v, .int .i64 c, .string x] w fun e w' => e = .returned (.bool true) ∧ Below w.heap.size w w' := by
  have hKB := Box.mk fun w' (hx : Below w.heap.size w w') => (hK.below hx hK.lt : KIs w')
  have hbl := bills_any w hK
  obtain ⟨V, S, C, H, R, L, er, h32, h128, hone⟩ := mk_one v c x
  have hMk := Box.mk fun w' (hb : Below w.heap.size w w') => (make_any v c x w' (hKB.out w' hb) hx).mono fun e w2 h => hone w' e w2 h
  have hDk := Box.mk fun w' => (rmake_any v c x w' hx).mono fun e w2 h => hone w' e w2 h
  have hFit := Box.mk (fit32 h32)
  have hee : (er != er) = false := by simp
  obtain ⟨n, hn⟩ : ∃ n, L.length = n := ⟨_, rfl⟩
  rw [hn] at h128
  have hnB := Box.mk hn
  obtain ⟨lT, hlT⟩ : ∃ T, leafT V S C H R L = T := ⟨_, rfl⟩
  obtain ⟨bT, hbT⟩ : ∃ T, bytT V S C H R L = T := ⟨_, rfl⟩
  obtain ⟨cI, hcI⟩ : ∃ I, chkI V S C H R L = I := ⟨_, rfl⟩
  have hce : (cI != cI) = false := by simp
  have e1 : (lT.toList == lT.toList) = true := by simp
  have e2 : (bT.toList == bT.toList) = true := by simp
  replace hlT := Box.mk hlT
  replace hbT := Box.mk hbT
  replace hcI := Box.mk hcI
  unfold BilIs at hMk hDk
  clear hn h32 hone hK
  go_enter Tryd.func3, Tryd.ntmps3
  go_wp2_with fail
  refine hbl.mono ?_
  clear hbl
  rintro e w1 ⟨rfl, hb1⟩
  have h1 := hMk.out w1 hb1
  replace hb1 := Box.mk hb1
  go_wp2_with fail
  refine h1.mono ?_
  clear h1
  rintro e w2 ⟨y1, rfl, hT2, hb2⟩
  obtain ⟨a1, k1, rfl⟩ := hT2.shape
  rw [hnB.out] at hT2 ⊢
  have hA2 := BAt.new w2 V S C H R (.slice a1 n k1)
  have hX2 := bel_alloc w2 (.cells #[.int .i64 V, .int .i64 S, .int .i64 C, .string H, .string R, .slice a1 n k1] 25)
  have hT3 := (hT2.here hX2).base hb1.out.size
  replace hb1 := bel_of (bel_of hb1.out hb2) hX2
  have h1 := hDk.out (w2.alloc (.cells #[.int .i64 V, .int .i64 S, .int .i64 C, .string H, .string R, .slice a1 n k1] 25))
  obtain ⟨w3, hw3⟩ : ∃ W, w2.alloc (.cells #[.int .i64 V, .int .i64 S, .int .i64 C, .string H, .string R, .slice a1 n k1] 25) = W := ⟨_, rfl⟩
  rw [hw3] at hA2 hT3 hb1
  obtain ⟨ga, hga⟩ : ∃ g, w2.heap.size = g := ⟨_, rfl⟩
  rw [hga] at hA2
  replace hA2 := Box.mk hA2
  replace hT3 := Box.mk hT3
  replace hb1 := Box.mk hb1
  have hw3B := Box.mk hw3
  clear hT2 hX2 hb2 hw3
  go_wp2_with fail
  refine h1.mono ?_
  clear h1
  rw [hw3B.out]
  clear hw3B hga
  rintro e w4 ⟨y2, rfl, hT4, hb4⟩
  obtain ⟨a2, k2, rfl⟩ := hT4.shape
  rw [hnB.out] at hT4 ⊢
  have hM4 : Box (M2 w ga w4.heap.size V S C H R (.slice a1 n k1) (.slice a2 n k2) L L (w4.alloc (.cells #[.int .i64 V, .int .i64 S, .int .i64 C, .string H, .string R, .slice a2 n k2] 25))) := ⟨by
    have hbX := bel_alloc w4 (.cells #[.int .i64 V, .int .i64 S, .int .i64 C, .string H, .string R, .slice a2 n k2] 25)
    refine ⟨(hA2.out.here hb4).here hbX, BAt.new w4 _ _ _ _ _ _, (hT3.out.here hb4).here hbX, (hT4.here hbX).base hb1.out.size, fun k hk e => ?_, bel_of (bel_of hb1.out hb4) hbX⟩
    have h5 := (hT3.out.own k hk).2
    have h6 := (hT4.own k e).1
    omega⟩
  have h1 := same15_any V S C H R (.slice a1 n k1) (.slice a2 n k2) L _ hM4.out.ra.parts hM4.out.rb.parts (by rw [hnB.out]; unfold maxLen; omega)
  obtain ⟨q0, q1, q2, q3, q4, q5⟩ := hM4.out.a.cells
  obtain ⟨gb, hgb⟩ : ∃ g, w4.heap.size = g := ⟨_, rfl⟩
  rw [hgb] at hM4
  clear hT4 hA2 hT3 hb1 hb4
  go_wp2_with fail
  refine h1.mono ?_
  clear h1 q0 q1 q2 q3 q4 q5
  rintro e w5 ⟨rfl, hb5⟩
  have hM := Box.mk (hM4.out.here hb5)
  clear hb5 hM4 hgb
  obtain ⟨q0, q1, q2, q3, q4, q5⟩ := hM.out.a.cells
  have h1 := bleaf_any V S C H R a1 n k1 L w5 (txPA hM.out.ra hnB.out) (hKB.out w5 hM.out.bel)
  rw [hlT.out, hcI.out] at h1
  go_wp2_with fail
  refine h1.mono ?_
  clear h1 q0 q1 q2 q3 q4 q5
  rintro e w6 ⟨rfl, hb5⟩
  replace hM := Box.mk (hM.out.here hb5)
  clear hb5
  obtain ⟨q0, q1, q2, q3, q4, q5⟩ := hM.out.b.cells
  have h1 := rleaf15_any V S C H R a2 n k2 L w6 (txPA hM.out.rb hnB.out) hFit.out
  rw [hlT.out, hcI.out] at h1
  go_wp2_with fail
  refine h1.mono ?_
  clear h1 q0 q1 q2 q3 q4 q5
  rintro e w7 ⟨rfl, hb5⟩
  replace hM := Box.mk (hM.out.here hb5)
  clear hb5
  obtain ⟨q0, q1, q2, q3, q4, q5⟩ := hM.out.a.cells
  have h1 := bbytes_any V S C H R a1 n k1 L w7 (txPA hM.out.ra hnB.out) (hKB.out w7 hM.out.bel)
  rw [hbT.out, hcI.out] at h1
  go_wp2_with fail
  refine h1.mono ?_
  clear h1 q0 q1 q2 q3 q4 q5
  rintro e w8 ⟨rfl, hb5⟩
  replace hM := Box.mk (hM.out.here hb5)
  clear hb5
  obtain ⟨q0, q1, q2, q3, q4, q5⟩ := hM.out.b.cells
  have h1 := rbytes_any V S C H R a2 n k2 L w8 (txPA hM.out.rb hnB.out) hFit.out
  rw [hbT.out, hcI.out] at h1
  go_wp2_with fail
  refine h1.mono ?_
  clear h1 q0 q1 q2 q3 q4 q5
  rintro e w9 ⟨rfl, hb5⟩
  replace hM := Box.mk (hM.out.here hb5)
  clear hb5
  obtain ⟨q0, q1, q2, q3, q4, q5⟩ := hM.out.a.cells
  have hS0 : Box (∃ La, La.length = n ∧ M2 w ga gb V S C H R (.slice a1 n k1) (.slice a2 n k2) La L w9) := ⟨L, hnB.out, hM.out⟩
  clear hM
  go_wp2_with fail
  clear q0 q1 q2 q3 q4 q5
  go_loopw [88] (fun q wr => ∃ i : Nat, i ≤ n ∧ q = .int .i64 (i : Int) ∧ Box (∃ La, La.length = n ∧ M2 w ga gb V S C H R (.slice a1 n k1) (.slice a2 n k2) La L wr)) (fun q _ => n - (intOf q).toNat)
  case atStart => exact ⟨0, by omega, rfl, hS0⟩
  case round =>
    clear hS0
    obtain ⟨i, hi, rfl, hS⟩ := hrel
    obtain ⟨La, hLa, hM⟩ := hS.out
    clear hS
    by_cases hlt : i < n
    · have hii : (i : Int) < (n : Int) := by omega
      obtain ⟨g, rfl, _, hcell⟩ := txsome hM.ra (by omega) hLa
      obtain ⟨u, p1, p2⟩ := hcell i hlt
      obtain ⟨q0, q1, q2, q3, q4, q5⟩ := hM.a.cells
      have hM2 : Box (∃ La, La.length = n ∧ M2 w ga gb V S C H R (.slice (some ⟨g, 0, none⟩) n k1) (.slice a2 n k2) La L (wr.setCell ⟨g, i, none⟩ (.string ⟨#[115, 112, 111, 105, 108, 116]⟩))) := ⟨_, by rw [List.length_set]; exact hLa, hM.spoil hLa i _⟩
      obtain ⟨w10, hw10⟩ : ∃ W, wr.setCell ⟨g, i, none⟩ (.string ⟨#[115, 112, 111, 105, 108, 116]⟩) = W := ⟨_, rfl⟩
      rw [hw10] at hM2
      clear hM hcell
      go_wp2_with fail
      exact ⟨⟨i + 1, by omega, by go_num, hM2⟩, by simp [intOf]; omega⟩
    · obtain rfl : i = n := by omega
      have hnl : ¬ (i : Int) < (i : Int) := by omega
      have h1 := hMk.out wr hM.bel
      replace hM := Box.mk hM
      go_wp2_with fail
      refine h1.mono ?_
      clear h1
      rintro e w10 ⟨y3, rfl, hT10, hb10⟩
      obtain ⟨a3, k3, rfl⟩ := hT10.shape
      rw [hnB.out] at hT10 ⊢
      have hbX := bel_alloc w10 (.cells #[.int .i64 V, .int .i64 S, .int .i64 C, .string H, .string R, .slice a3 i k3] 25)
      have hM11 := Box.mk ((hM.out.here hb10).here hbX)
      have hT11 := Box.mk (hT10.here hbX)
      have h1 := same15_any V S C H R (.slice a3 i k3) (.slice a2 i k2) L _ hT11.out.parts hM11.out.rb.parts (by rw [hnB.out]; unfold maxLen; omega)
      obtain ⟨q0, q1, q2, q3, q4, q5⟩ := hM11.out.b.cells
      clear hM hT10 hb10 hbX
      go_wp2_with fail
      refine h1.mono ?_
      clear h1 q0 q1 q2 q3 q4 q5
      rintro e w12 ⟨rfl, hb12⟩
      have hfin := Box.mk (bel_of hM11.out.bel hb12)
      go_wp2_with fail
      go_ret
      exact ⟨rfl, hfin.out⟩
end Go.Proofs.YtdnhpldcnmbncaaDoor.Bi
