/- Walk of the law BillMakes. -/
import Derived.Test.YtdnhpldcnmbncaaDoorBlK
namespace Go.Proofs.YtdnhpldcnmbncaaDoor.Bi
open Go Go.RowKit Go.Proofs.YtdnhpldcnmbncaaDoor
set_option linter.all false

theorem txput {B : Nat} {w : World} {g n c : Nat} {ids : List ByteArray} (h : TxR B w (.slice (some ⟨g, 0, none⟩) n c) ids) (hn : ids.length = n) (j : Nat) (x : ByteArray) : TxR B (w.setCell ⟨g, j, none⟩ (.string x)) (.slice (some ⟨g, 0, none⟩) n c) (ids.set j x) := by
  have hr : Pk.Row w 9 1 (.slice (some ⟨g, 0, none⟩) n c) n (ids.map Value.string) := by
    have := h.base (Nat.zero_le _)
    rw [← hn] at this ⊢
    exact this
  refine TxR.of_row ?_ fun k hk => (h.own k hk).1
  rw [List.length_set, hn, List.map_set]
  obtain ⟨hx, ⟨h0, _⟩ | ⟨g2, cap, cur, e1, b1, hg, k1, k2, k3, k4⟩⟩ := hr
  · cases h0
  · cases e1
    refine ⟨by rw [List.length_set]; exact hx, .inr ⟨g, c, cur.setIfInBounds j (.string x), rfl, b1, heap_setCell_same w g j cur _ _ hg, k1, k2, by simpa using k3, ?_⟩⟩
    rw [Array.toList_setIfInBounds, List.take_set, k4]
theorem txsome {B : Nat} {w : World} {a : Option Addr} {n c : Nat} {ids : List ByteArray} (h : TxR B w (.slice a n c) ids) (hn : 0 < n) (hl : ids.length = n) : ∃ g, a = Option.some ⟨g, 0, none⟩ ∧ B ≤ g ∧ ∀ j, j < n → ∃ x, w.cell? ⟨g, j, none⟩ = Option.some (.string x) ∧ w.frozen? ⟨g, j, none⟩ = false := by
  have hr : Pk.Row w 9 1 (.slice a n c) n (ids.map Value.string) := by
    have := h.base (Nat.zero_le _)
    rw [← hl] at this ⊢
    exact this
  have hr2 := hr
  obtain ⟨_, ⟨_, h0⟩ | ⟨g, cap, cur, e, _, hg, _⟩⟩ := hr2
  · omega
  · cases e
    refine ⟨g, rfl, (h.own g rfl).1, fun j hj => ⟨ids[j]'(by omega), hr.cells _ _ (by simp), frozen_of_row w g j cur _ hg⟩⟩
/-- Two bills alike beside each other, each with its row. -/
structure M2 (w0 : World) (ga gb : Nat) (v s c : Int) (h t : ByteArray) (x y : Value) (La Lb : List ByteArray) (w : World) : Prop where
  a : BAt w ga v s c h t x
  b : BAt w gb v s c h t y
  ra : TxR w0.heap.size w x La
  rb : TxR w0.heap.size w y Lb
  ap : ∀ k, x.ownBlock = some k → y.ownBlock ≠ some k
  bel : Below w0.heap.size w0 w
section
variable {w0 w w2 : World} {ga gb : Nat} {v s c : Int} {h t : ByteArray} {x y : Value} {La Lb : List ByteArray}
theorem M2.here (hM : M2 w0 ga gb v s c h t x y La Lb w) (hb : Below w.heap.size w w2) : M2 w0 ga gb v s c h t x y La Lb w2 :=
  ⟨hM.a.here hb, hM.b.here hb, hM.ra.here hb, hM.rb.here hb, hM.ap, mono_bel hM.bel hb (Nat.le_refl _)⟩
theorem M2.spoil {g n k : Nat} (hM : M2 w0 ga gb v s c h t (.slice (some ⟨g, 0, none⟩) n k) y La Lb w) (hn : La.length = n) (j : Nat) (z : ByteArray) : M2 w0 ga gb v s c h t (.slice (some ⟨g, 0, none⟩) n k) y (La.set j z) Lb (w.setCell ⟨g, j, none⟩ (.string z)) := by
  have hc : Pk.Chg (fun i => i = g) w (w.setCell ⟨g, j, none⟩ (.string z)) := (Pk.Chg.refl (fun i => i = g) w).setCell (p := ⟨g, j, none⟩) rfl _
  have h1 : (Value.slice (some ⟨g, 0, none⟩) n k).ownBlock ≠ some ga := Pk.Row.apart (hM.ra.base (Nat.zero_le _)) hM.a (by decide)
  have h2 : (Value.slice (some ⟨g, 0, none⟩) n k).ownBlock ≠ some gb := Pk.Row.apart (hM.ra.base (Nat.zero_le _)) hM.b (by decide)
  refine ⟨hc.blk hM.a (fun e => h1 (by rw [e]; rfl)), hc.blk hM.b (fun e => h2 (by rw [e]; rfl)), txput hM.ra hn j z, hM.rb.chg hc fun q hq e => hM.ap g rfl (by rw [hq, e]), hM.ap, hM.bel.trans (hc.below hM.bel.size fun _ hi => hi ▸ (hM.ra.own g rfl).1)⟩
end
/-- One bill for both: of good numbers the made one, else the zero bill. -/
theorem mk_one (v c : Int) (x : ByteArray) : ∃ (V S C : Int) (H R : ByteArray) (L : List ByteArray) (er : Int), (∀ y ∈ L, y.size = 32) ∧ L.length ≤ 128 ∧ ∀ w e w', mkIs v c x w e w' → BilIs V S C H R L er w e w' := by
  cases hn : numB v x.size c with
  | true =>
    obtain ⟨m, hm, h1, h2, _⟩ := cnt_nat hn
    refine ⟨v, x.size, c, hashOf x.data.toList, rootL (mkL c.toNat x m), mkL c.toNat x m, 0, mkL_32 _ _ _, by rw [mkL_len]; exact h2, fun w e w' h => ?_⟩
    have := h.1 hn
    rw [hm, Int.toNat_natCast] at this
    exact this
  | false => exact ⟨0, 0, 0, ⟨#[]⟩, ⟨#[]⟩, [], 1, fun y hy => (by cases hy), Nat.zero_le _, fun w e w' h => h.2 hn⟩
theorem bel_of {w0 w w2 : World} (h1 : Below w0.heap.size w0 w) (h2 : Below w.heap.size w w2) : Below w0.heap.size w0 w2 := mono_bel h1 h2 (Nat.le_refl _)
set_option maxHeartbeats 6400000 in
set_option maxRecDepth 100000 in
theorem law_makes (v c : Int) (x : ByteArray) (w : World) (hK : KIs w) (hx : x.size ≤ 140737488354000) :
    Calls Tryd.prog 3 #[.int .i64 v, .int .i64 c, .string x] w fun e w' => e = .returned (.bool true) ∧ Below w.heap.size w w' := by
  have hKB := Box.mk fun w' (hx : Below w.heap.size w w') => (hK.below hx hK.lt : KIs w')
  have hbl := bills_any w hK
  obtain ⟨V, S, C, H, R, L, er, h32, h128, hone⟩ := mk_one v c x
  have hMk := Box.mk fun w' (hb : Below w.heap.size w w') => (make_any v c x w' (hKB.out w' hb) hx).mono fun e w2 h => hone w' e w2 h
  have hDk := Box.mk fun w' => (rmake_any v c x w' hx).mono fun e w2 h => hone w' e w2 h
  have hFit := Box.mk (fit32 h32)
  have hee : (er != er) = false := by simp
  obtain ⟨n, hn⟩ : ∃ n, L.length = n := ⟨_, rfl⟩
  rw [hn] at h128
  have hnB := Box.mk hn
  obtain ⟨lT, hlT⟩ : ∃ T, leafT V S C H R L = T := ⟨_, rfl⟩
  obtain ⟨bT, hbT⟩ : ∃ T, bytT V S C H R L = T := ⟨_, rfl⟩
  obtain ⟨cI, hcI⟩ : ∃ I, chkI V S C H R L = I := ⟨_, rfl⟩
  have hce : (cI != cI) = false := by simp
  have e1 : (lT.toList == lT.toList) = true := by simp
  have e2 : (bT.toList == bT.toList) = true := by simp
  replace hlT := Box.mk hlT
  replace hbT := Box.mk hbT
  replace hcI := Box.mk hcI
  unfold BilIs at hMk hDk
  clear hn h32 hone hK
  go_enter Tryd.func3, Tryd.ntmps3
  go_wp2_with fail
  refine hbl.mono ?_
  clear hbl
  rintro e w1 ⟨rfl, hb1⟩
  have h1 := hMk.out w1 hb1
  replace hb1 := Box.mk hb1
  go_wp2_with fail
  refine h1.mono ?_
  clear h1
  rintro e w2 ⟨y1, rfl, hT2, hb2⟩
  obtain ⟨a1, k1, rfl⟩ := hT2.shape
  rw [hnB.out] at hT2 ⊢
  have hA2 := BAt.new w2 V S C H R (.slice a1 n k1)
  have hX2 := bel_alloc w2 (.cells #[.int .i64 V, .int .i64 S, .int .i64 C, .string H, .string R, .slice a1 n k1] 25)
  have hT3 := (hT2.here hX2).base hb1.out.size
  replace hb1 := bel_of (bel_of hb1.out hb2) hX2
  have h1 := hDk.out (w2.alloc (.cells #[.int .i64 V, .int .i64 S, .int .i64 C, .string H, .string R, .slice a1 n k1] 25))
  obtain ⟨w3, hw3⟩ : ∃ W, w2.alloc (.cells #[.int .i64 V, .int .i64 S, .int .i64 C, .string H, .string R, .slice a1 n k1] 25) = W := ⟨_, rfl⟩
  rw [hw3] at hA2 hT3 hb1
  obtain ⟨ga, hga⟩ : ∃ g, w2.heap.size = g := ⟨_, rfl⟩
  rw [hga] at hA2
  replace hA2 := Box.mk hA2
  replace hT3 := Box.mk hT3
  replace hb1 := Box.mk hb1
  have hw3B := Box.mk hw3
  clear hT2 hX2 hb2 hw3
  go_wp2_with fail
  refine h1.mono ?_
  clear h1
  rw [hw3B.out]
  clear hw3B hga
  rintro e w4 ⟨y2, rfl, hT4, hb4⟩
  obtain ⟨a2, k2, rfl⟩ := hT4.shape
  rw [hnB.out] at hT4 ⊢
  have hM4 : Box (M2 w ga w4.heap.size V S C H R (.slice a1 n k1) (.slice a2 n k2) L L (w4.alloc (.cells #[.int .i64 V, .int .i64 S, .int .i64 C, .string H, .string R, .slice a2 n k2] 25))) := ⟨by
    have hbX := bel_alloc w4 (.cells #[.int .i64 V, .int .i64 S, .int .i64 C, .string H, .string R, .slice a2 n k2] 25)
    refine ⟨(hA2.out.here hb4).here hbX, BAt.new w4 _ _ _ _ _ _, (hT3.out.here hb4).here hbX, (hT4.here hbX).base hb1.out.size, fun k hk e => ?_, bel_of (bel_of hb1.out hb4) hbX⟩
    have h5 := (hT3.out.own k hk).2
    have h6 := (hT4.own k e).1
    omega⟩
  have h1 := same15_any V S C H R (.slice a1 n k1) (.slice a2 n k2) L _ hM4.out.ra.parts hM4.out.rb.parts (by rw [hnB.out]; unfold maxLen; omega)
  obtain ⟨q0, q1, q2, q3, q4, q5⟩ := hM4.out.a.cells
  obtain ⟨gb, hgb⟩ : ∃ g, w4.heap.size = g := ⟨_, rfl⟩
  rw [hgb] at hM4
  clear hT4 hA2 hT3 hb1 hb4
  go_wp2_with fail
  refine h1.mono ?_
  clear h1 q0 q1 q2 q3 q4 q5
  rintro e w5 ⟨rfl, hb5⟩
  have hM := Box.mk (hM4.out.here hb5)
  clear hb5 hM4 hgb
  obtain ⟨q0, q1, q2, q3, q4, q5⟩ := hM.out.a.cells
  have h1 := bleaf_any V S C H R a1 n k1 L w5 (txPA hM.out.ra hnB.out) (hKB.out w5 hM.out.bel)
  rw [hlT.out, hcI.out] at h1
  go_wp2_with fail
  refine h1.mono ?_
  clear h1 q0 q1 q2 q3 q4 q5
  rintro e w6 ⟨rfl, hb5⟩
  replace hM := Box.mk (hM.out.here hb5)
  clear hb5
  obtain ⟨q0, q1, q2, q3, q4, q5⟩ := hM.out.b.cells
  have h1 := rleaf15_any V S C H R a2 n k2 L w6 (txPA hM.out.rb hnB.out) hFit.out
  rw [hlT.out, hcI.out] at h1
  go_wp2_with fail
  refine h1.mono ?_
  clear h1 q0 q1 q2 q3 q4 q5
  rintro e w7 ⟨rfl, hb5⟩
  replace hM := Box.mk (hM.out.here hb5)
  clear hb5
  obtain ⟨q0, q1, q2, q3, q4, q5⟩ := hM.out.a.cells
  have h1 := bbytes_any V S C H R a1 n k1 L w7 (txPA hM.out.ra hnB.out) (hKB.out w7 hM.out.bel)
  rw [hbT.out, hcI.out] at h1
  go_wp2_with fail
  refine h1.mono ?_
  clear h1 q0 q1 q2 q3 q4 q5
  rintro e w8 ⟨rfl, hb5⟩
  replace hM := Box.mk (hM.out.here hb5)
  clear hb5
  obtain ⟨q0, q1, q2, q3, q4, q5⟩ := hM.out.b.cells
  have h1 := rbytes_any V S C H R a2 n k2 L w8 (txPA hM.out.rb hnB.out) hFit.out
  rw [hbT.out, hcI.out] at h1
  go_wp2_with fail
  refine h1.mono ?_
  clear h1 q0 q1 q2 q3 q4 q5
  rintro e w9 ⟨rfl, hb5⟩
  replace hM := Box.mk (hM.out.here hb5)
  clear hb5
  obtain ⟨q0, q1, q2, q3, q4, q5⟩ := hM.out.a.cells
  have hS0 : Box (∃ La, La.length = n ∧ M2 w ga gb V S C H R (.slice a1 n k1) (.slice a2 n k2) La L w9) := ⟨L, hnB.out, hM.out⟩
  clear hM
  go_wp2_with fail
  clear q0 q1 q2 q3 q4 q5
  go_loopw [88] (fun q wr => ∃ i : Nat, i ≤ n ∧ q = .int .i64 (i : Int) ∧ Box (∃ La, La.length = n ∧ M2 w ga gb V S C H R (.slice a1 n k1) (.slice a2 n k2) La L wr)) (fun q _ => n - (intOf q).toNat)
  case atStart => exact ⟨0, by omega, rfl, hS0⟩
  case round =>
    clear hS0
    obtain ⟨i, hi, rfl, hS⟩ := hrel
    obtain ⟨La, hLa, hM⟩ := hS.out
    clear hS
    by_cases hlt : i < n
    · have hii : (i : Int) < (n : Int) := by omega
      obtain ⟨g, rfl, _, hcell⟩ := txsome hM.ra (by omega) hLa
      obtain ⟨u, p1, p2⟩ := hcell i hlt
      obtain ⟨q0, q1, q2, q3, q4, q5⟩ := hM.a.cells
      have hM2 : Box (∃ La, La.length = n ∧ M2 w ga gb V S C H R (.slice (some ⟨g, 0, none⟩) n k1) (.slice a2 n k2) La L (wr.setCell ⟨g, i, none⟩ (.string ⟨#[115, 112, 111, 105, 108, 116]⟩))) := ⟨_, by rw [List.length_set]; exact hLa, hM.spoil hLa i _⟩
      obtain ⟨w10, hw10⟩ : ∃ W, wr.setCell ⟨g, i, none⟩ (.string ⟨#[115, 112, 111, 105, 108, 116]⟩) = W := ⟨_, rfl⟩
      rw [hw10] at hM2
      clear hM hcell
      go_wp2_with fail
      exact ⟨⟨i + 1, by omega, by go_num, hM2⟩, by simp [intOf]; omega⟩
    · obtain rfl : i = n := by omega
      have hnl : ¬ (i : Int) < (i : Int) := by omega
      have h1 := hMk.out wr hM.bel
      replace hM := Box.mk hM
      go_wp2_with fail
      refine h1.mono ?_
      clear h1
      rintro e w10 ⟨y3, rfl, hT10, hb10⟩
      obtain ⟨a3, k3, rfl⟩ := hT10.shape
      rw [hnB.out] at hT10 ⊢
      have hbX := bel_alloc w10 (.cells #[.int .i64 V, .int .i64 S, .int .i64 C, .string H, .string R, .slice a3 i k3] 25)
      have hM11 := Box.mk ((hM.out.here hb10).here hbX)
      have hT11 := Box.mk (hT10.here hbX)
      have h1 := same15_any V S C H R (.slice a3 i k3) (.slice a2 i k2) L _ hT11.out.parts hM11.out.rb.parts (by rw [hnB.out]; unfold maxLen; omega)
      obtain ⟨q0, q1, q2, q3, q4, q5⟩ := hM11.out.b.cells
      clear hM hT10 hb10 hbX
      go_wp2_with fail
      refine h1.mono ?_
      clear h1 q0 q1 q2 q3 q4 q5
      rintro e w12 ⟨rfl, hb12⟩
      have hfin := Box.mk (bel_of hM11.out.bel hb12)
      go_wp2_with fail
      go_ret
      exact ⟨rfl, hfin.out⟩
