/- Bills: the document's Same; the law's example. -/
import Derived.Test.YtdnhpldcnmbncaaDoorBlG
import Derived.Test.YtdnhpldcnmbncaaDoorBlS
namespace Go.Proofs.YtdnhpldcnmbncaaDoor.Bi
open Go Go.RowKit Go.Proofs.YtdnhpldcnmbncaaDoor
set_option linter.all false

set_option maxHeartbeats 1600000 in
set_option maxRecDepth 100000 in
theorem same15_any (v s c : Int) (h t : ByteArray) (x y : Value) (l : List ByteArray) (w : World) (hx : PartsAt w x l) (hy : PartsAt w y l) (hm : l.length ≤ maxLen) :
    Calls Tryd.prog 10 #[.agg #[.int .i64 v, .int .i64 s, .int .i64 c, .string h, .string t, x], .agg #[.int .i64 v, .int .i64 s, .int .i64 c, .string h, .string t, y]] w fun e w' => e = .returned (.bool true) ∧ Below w.heap.size w w' := by
  have hA := BAt.new w v s c h t x
  have hb1 := bel_alloc w (.cells #[.int .i64 v, .int .i64 s, .int .i64 c, .string h, .string t, x] 25)
  obtain ⟨w1, hw1⟩ : ∃ W, w.alloc (.cells #[.int .i64 v, .int .i64 s, .int .i64 c, .string h, .string t, x] 25) = W := ⟨_, rfl⟩
  rw [hw1] at hA hb1
  have hB := BAt.new w1 v s c h t y
  have hb2 := bel_alloc w1 (.cells #[.int .i64 v, .int .i64 s, .int .i64 c, .string h, .string t, y] 25)
  replace hA := hA.here hb2
  have hb := Box.mk (mono_bel hb1 hb2 (Nat.le_refl _))
  obtain ⟨w2, hw2⟩ : ∃ W, w1.alloc (.cells #[.int .i64 v, .int .i64 s, .int .i64 c, .string h, .string t, y] 25) = W := ⟨_, rfl⟩
  rw [hw2] at hA hB hb
  obtain ⟨g1, hg1⟩ : ∃ g, w.heap.size = g := ⟨_, rfl⟩
  obtain ⟨g2, hg2⟩ : ∃ g, w1.heap.size = g := ⟨_, rfl⟩
  rw [hg1] at hA
  rw [hg2] at hB
  obtain ⟨q0, q1, q2, q3, q4, q5⟩ := hA.cells
  obtain ⟨r0, r1, r2, r3, r4, r5⟩ := hB.cells
  have e1 : (h.toList == h.toList) = true := by simp
  have e2 : (t.toList == t.toList) = true := by simp
  have h1 := same_any x y l l w2 (partsHere hx hb.out) (partsHere hy hb.out) hm
  rw [show texB l l = true by simp [texB]] at h1
  clear hA hB hb1 hb2 hx hy
  go_enter Tryd.func10, Tryd.ntmps10
  go_wp2_with fail
  refine h1.mono ?_
  clear h1
  rintro e w3 ⟨rfl, hb3⟩
  replace hb := Box.mk (mono_bel hb.out hb3 (Nat.le_refl _))
  go_wp2_with fail
  go_ret
  exact ⟨rfl, by first | exact hb.out | exact hg1 ▸ hb.out⟩
theorem own_zeros {w : World} {v : Value} (n : Nat) (h : w.ownsRow 0 5 1 v n (List.replicate n (.int .u8 0))) : Pk.Own w v (List.replicate n 0) := by
  unfold Pk.Own
  rw [List.length_replicate, List.map_replicate]
  exact h
set_option maxHeartbeats 3200000 in
set_option maxRecDepth 100000 in
theorem bills_any (w : World) (hK : KIs w) :
    Calls Tryd.prog 7 #[] w fun e w' => e = .returned (.bool true) ∧ Below w.heap.size w w' := by
  obtain ⟨i0, hi0, hz0, hz1, hz2⟩ := info_parts Pk.info5
  have hH := Box.mk (And.intro hi0 (And.intro hz0 (And.intro hz1 hz2)))
  clear hi0 hz0 hz1 hz2
  replace hK := Box.mk hK
  go_enter Tryd.func7, Tryd.ntmps7
  go_wp2_with (at_make; refine wpList_make_full _ rfl (.const (.int .i64 100)) (.const (.int .i64 100)) 43 rfl 0 5 i0 (.int .u8 0) 1 Tryd.underlying43 hH.out.1 hH.out.2.1 hH.out.2.2.1 .i64 .i64 _ _ 100 rfl rfl rfl rfl (by rw [hH.out.2.2.2]; omega) (by unfold maxLen; omega) (Nat.zero_le _) ?_; intro w4 hown hg; replace hown := Box.mk hown; replace hg := Box.mk hg; have hO := own_zeros 100 (show w4.ownsRow 0 5 1 (.slice (some ⟨w.heap.size, 0, none⟩) 100 100) 100 (List.replicate 100 (.int .u8 0)) from (by have h := hown.out; rw [show (madeCells (Value.int .u8 0).cells (100 * 1)).toList = List.replicate 100 (.int .u8 0) by kernel_rfl] at h; exact h)); have hcv := Pk.own_text hO; clear hO; obtain ⟨Z, hZ⟩ : ∃ Z : ByteArray, (⟨(List.replicate 100 (0 : UInt8)).toArray⟩ : ByteArray) = Z := ⟨_, rfl⟩; have hZs : Box (Z.size = 100) := ⟨by rw [← hZ]; rfl⟩; rw [hZ] at hcv; clear hZ)
  have hb4 := Box.mk (show Below w.heap.size w w4 from ⟨hg.out.os, hg.out.tape, hg.out.output, hg.out.size, fun k hk => hg.out.block k hk (by simp)⟩)
  have hn : numB 3 (Z.size : Int) 64 = true := by rw [hZs.out]; decide
  have hm : cntI (Z.size : Int) 64 = ((2 : Nat) : Int) := by rw [hZs.out]; decide
  have h1 := (make_any 3 64 Z w4 (hK.out.below hb4.out hK.out.lt) (by rw [hZs.out]; omega)).mono fun e w' h => h.1 hn
  have hgood := mk_good hn hm
  have hll := mkL_len (64 : Int).toNat Z 2
  have h32 := chk_32 hgood
  rw [hm, Int.toNat_natCast] at h1
  rw [hZs.out] at h1 hgood
  obtain ⟨L, hL⟩ : ∃ L, mkL (64 : Int).toNat Z 2 = L := ⟨_, rfl⟩
  rw [hL] at h1 hgood hll h32
  obtain ⟨H, hHe⟩ : ∃ H, hashOf Z.data.toList = H := ⟨_, rfl⟩
  rw [hHe] at h1 hgood h32
  obtain ⟨R, hR⟩ : ∃ R, rootL L = R := ⟨_, rfl⟩
  rw [hR] at h1 hgood h32
  have hcn : cnM 3 100 64 H R L = 2 := by
    have := (cn_yes hgood).1
    have h2 : cntI 100 64 = 2 := by decide
    rw [show (((100 : Nat) : Int)) = 100 from rfl] at this
    omega
  obtain ⟨hT, hI⟩ := leafT_yes hgood
  rw [show (((100 : Nat) : Int)) = 100 from rfl] at hT hI
  have hTs : (leafT 3 100 64 H R L).size = 71 := by
    rw [hT]
    show (leafL 3 100 64 H R).toArray.size = 71
    rw [List.size_toArray, leafL_len h32.1 h32.2]
  unfold BilIs at h1
  clear hL hHe hR hT hZs hcv hown hg hH hgood hn hm h32
  obtain ⟨T, hTe⟩ : ∃ T, leafT 3 100 64 H R L = T := ⟨_, rfl⟩
  rw [hTe] at hTs
  go_wp2_with fail
  refine h1.mono ?_
  clear h1
  rintro e w5 ⟨y, rfl, hT5, hb5⟩
  obtain ⟨a, k, rfl⟩ := hT5.shape
  rw [hll] at hT5 ⊢
  rw [show (((100 : Nat) : Int)) = 100 from rfl]
  have hb6 := mono_bel (mono_bel hb4.out hb5 (Nat.le_refl _)) (bel_alloc w5 (.cells #[.int .i64 3, .int .i64 100, .int .i64 64, .string H, .string R, .slice a 2 k] 25)) (Nat.le_refl _)
  have hA := BAt.new w5 3 100 64 H R (.slice a 2 k)
  have hP := txPA (hT5.here (bel_alloc w5 (.cells #[.int .i64 3, .int .i64 100, .int .i64 64, .string H, .string R, .slice a 2 k] 25))) hll
  have h1 := bcut_any 3 100 64 1 H R a 2 k L _ hP (hK.out.below hb6 hK.out.lt)
  rw [hcn, show cutP 100 64 2 1 = (64, 100) by decide] at h1
  dsimp only at h1
  obtain ⟨g, hg⟩ : ∃ g, w5.heap.size = g := ⟨_, rfl⟩
  rw [hg] at hA
  replace hA := Box.mk hA
  replace hP := Box.mk hP
  replace hb6 := Box.mk hb6
  replace hcn := Box.mk hcn
  replace hI := Box.mk hI
  replace hTe := Box.mk hTe
  clear hT5 hb5 hb4 hll
  go_wp2_with fail
  refine h1.mono ?_
  clear h1 hg
  rintro e w7 ⟨rfl, hb7⟩
  replace hA := Box.mk (hA.out.here hb7)
  replace hP := Box.mk (hP.out.here hb7)
  replace hb6 := Box.mk (mono_bel hb6.out hb7 (Nat.le_refl _))
  clear hb7
  obtain ⟨q0, q1, q2, q3, q4, q5⟩ := hA.out.cells
  have h1 := bleaf_any 3 100 64 H R a 2 k L w7 hP.out (hK.out.below hb6.out hK.out.lt)
  rw [hI.out, hTe.out] at h1
  go_wp2_with fail
  refine h1.mono ?_
  clear h1 q0 q1 q2 q3 q4 q5
  rintro e w8 ⟨rfl, hb7⟩
  replace hA := Box.mk (hA.out.here hb7)
  replace hP := Box.mk (hP.out.here hb7)
  replace hb6 := Box.mk (mono_bel hb6.out hb7 (Nat.le_refl _))
  clear hb7
  obtain ⟨q0, q1, q2, q3, q4, q5⟩ := hA.out.cells
  have h1 := bcount_any 3 100 64 H R a 2 k L w8 hP.out (hK.out.below hb6.out hK.out.lt)
  rw [hcn.out] at h1
  go_wp2_with fail
  refine h1.mono ?_
  clear h1 q0 q1 q2 q3 q4 q5
  rintro e w9 ⟨rfl, hb7⟩
  replace hb6 := Box.mk (mono_bel hb6.out hb7 (Nat.le_refl _))
  go_wp2_with fail
  go_ret
  exact ⟨rfl, hb6.out⟩
