/- Walk of sha.mix: a block mixed into the state of a digest. -/
import Derived.Test.YtdnhpldcnmbncaaDoorShaB
import Derived.Test.YtdnhpldcnmbncaaDoorShaN
namespace Go.Proofs.YtdnhpldcnmbncaaDoor
open Go.RowKit

/-- The words k stand where the program keeps them. -/
def KIs (w : World) : Prop := ∀ i, i < 64 → w.cell? ⟨0, i, none⟩ = some (.int .u32 (U (k64.getD i 0)))
theorem KIs.lt {w : World} (h : KIs w) : 0 < w.heap.size := block_lt_of_cell (h 0 (by omega))
theorem KIs.below {B : Nat} {w w' : World} (h : KIs w) (hb : Below B w w') (hB : 0 < B) : KIs w' := fun i hi => by
  rw [hb.cell (p := ⟨0, i, none⟩) hB]; exact h i hi
theorem KIs.save {B b : Nat} {w w' : World} (h : KIs w) (hb : Save B b w w') (hB : 0 < B) (hn : b ≠ 0) : KIs w' := fun i hi => by
  rw [hb.cell (p := ⟨0, i, none⟩) hB hn.symm]; exact h i hi

theorem spread_new (b : Nat) (l : List UInt8) (st : S8) (rest : List Value) (w : World) (t0 : TypeId)
    (hb : Blk w b (st.cells ++ rest) t0) (hr : ∀ i, i < 64 → rest[i]? = some (.int .u8 (Y (l.getD i 0)))) (hK : KIs w) :
    Calls Tryd.prog 87 #[.pointer (some ⟨w.heap.size, 0, none⟩), .pointer (some ⟨b, 8, none⟩)] (w.alloc (.cells zeros64 95)) fun e w1 => e = .returned (.tuple #[]) ∧
      (∃ W, SchedIs l W ∧ Blk w1 w.heap.size (wcells 64 W) 95) ∧ Blk w1 b (st.cells ++ rest) t0 ∧ Below w.heap.size w w1 ∧ KIs w1 := by
  have hlt := hb.lt
  have hcb : ∀ i, i < 64 → w.cell? ⟨b, 8 + i, none⟩ = some (.int .u8 (Y (l.getD i 0))) := fun i hi => by
    rw [hb.cell, List.getElem?_append_right (by simp [S8.cells, S8.list])]
    have : (8 + i - st.cells.length) = i := by simp [S8.cells, S8.list]
    rw [this]; exact hr i hi
  have hcs : ∀ i, i < 64 → (w.alloc (.cells (wcells 64 []).toArray 95)).cell? ⟨b, 8 + i, none⟩ = some (.int .u8 (Y (l.getD i 0))) := fun i hi => by
    rw [World.cell?_alloc_past _ _ _ hlt]; exact hcb i hi
  have hW0 := Blk.new w (wcells 64 []) 95
  have hne : w.heap.size ≠ b := by omega
  have H1 := spread_any w.heap.size b 8 l _ 95 hne hW0 hcs
  rw [zeros64_eq] at H1
  refine H1.mono fun e w1 ⟨h0, h1, h2⟩ => ?_
  have h3 : Below w.heap.size w w1 := ((Below.refl _ w).alloc (Nat.le_refl _) _).trans ((h2.mono (by simp)).below (Nat.le_refl _))
  exact ⟨h0, ⟨_, ⟨rfl⟩, h1⟩, hb.below h3 hlt, h3, hK.below h3 hK.lt⟩

set_option maxHeartbeats 800000 in
set_option maxRecDepth 100000 in
theorem mix_any (b : Nat) (l : List UInt8) (st : S8) (rest : List Value) (w : World) (t0 : TypeId)
    (hb : Blk w b (st.cells ++ rest) t0) (hr : ∀ i, i < 64 → rest[i]? = some (.int .u8 (Y (l.getD i 0))))
    (hK : KIs w) :
    Calls Tryd.prog 77 #[.pointer (some ⟨b, 0, none⟩), .pointer (some ⟨b, 8, none⟩)] w fun e w' => e = .returned (.tuple #[]) ∧ Blk w' b ((comp l st).cells ++ rest) t0 ∧ Save w.heap.size b w w' := by
  have hlt := hb.lt
  go_enter Tryd.func77, Tryd.ntmps77
  go_wp2_with (go_at_call 87; refine (spread_new b l st rest w t0 hb hr hK).mono ?_; rintro e w1 ⟨rfl, ⟨W, hWW, hW1⟩, hb1, hB1, hK1⟩)
  have c0 := hb1.cell 0
  have c1 := hb1.cell 1
  have c2 := hb1.cell 2
  have c3 := hb1.cell 3
  have c4 := hb1.cell 4
  have c5 := hb1.cell 5
  have c6 := hb1.cell 6
  have c7 := hb1.cell 7
  simp only [S8.cells, S8.list, List.map_cons, List.cons_append, List.getElem?_cons_zero, List.getElem?_cons_succ] at c0 c1 c2 c3 c4 c5 c6 c7
  go_quiet (fail)
  go_wp2
  go_quiet (fail)
  go_wp2
  go_loopw [5, 6, 7, 8, 9, 10, 11, 12, 50] (fun s5 s6 s7 s8 s9 s10 s11 s12 q wr => ∃ (k : Nat) (a b c d e f g h : BitVec 32), k ≤ 64 ∧ q = .int .i64 k ∧ Drawn w1 wr ∧ RoundsAre W st k a b c d e f g h ∧
      s5 = .int .u32 (U a) ∧ s6 = .int .u32 (U b) ∧ s7 = .int .u32 (U c) ∧ s8 = .int .u32 (U d) ∧ s9 = .int .u32 (U e) ∧ s10 = .int .u32 (U f) ∧ s11 = .int .u32 (U g) ∧ s12 = .int .u32 (U h)) (fun _ _ _ _ _ _ _ _ q _ => 64 - (intOf q).toNat)
  case atStart => exact ⟨0, _, _, _, _, _, _, _, _, by omega, rfl, Drawn.of2 _ _ _, RoundsAre.zero W st, rfl, rfl, rfl, rfl, rfl, rfl, rfl, rfl⟩
  case round =>
    obtain ⟨k, a, b', c, d, e, f, g, h, hk, rfl, HD, HR, rfl, rfl, rfl, rfl, rfl, rfl, rfl, rfl⟩ := hrel
    by_cases hk64 : k < 64
    · have kk := hK1 k hk64
      rw [← HD.cell] at kk
      have ww := (HD.blk hW1).cell k
      rw [wcells_get' 64 _ _ _ hWW.len hk64] at ww
      obtain ⟨kt, hkt⟩ : ∃ x, k64.getD k 0 = x := ⟨_, rfl⟩
      obtain ⟨wt, hwt⟩ : ∃ x, W.getD k 0 = x := ⟨_, rfl⟩
      rw [hkt] at kk
      rw [hwt] at ww
      have HK := Box.mk hkt
      have HW := Box.mk hwt
      clear hkt hwt
      clear c0 c1 c2 c3 c4 c5 c6 c7 hW1 hK1 hb1 hB1 hb hr hK
      go_wp2_with fail
      have ua := U_add
      have ux := U_xor
      have un := U_and
      have uo := U_not
      have us : (if IntKind.u32.signed = true then (-1 : Int) else IntKind.u32.max) = 4294967295 := by decide
      go_quiet ((go_at_call 88; exact quiet_same (turns_S1 _ _)))
      go_wp2_with (go_at_call 88; refine (turns_S0 _ _).mono ?_; rintro e w' ⟨rfl, rfl⟩)
      have hm : 64 - (intOf (Value.int IntKind.i64 (↑k + 1))).toNat < 64 - (intOf (Value.int IntKind.i64 ↑k)).toNat := by simp [intOf]; omega
      exact ⟨⟨k + 1, _, _, _, _, _, _, _, _, by omega, by go_num, HD.drewN nq, HR.step HK HW, rfl, rfl, rfl, rfl, rfl, rfl, rfl, rfl⟩, hm⟩
    · obtain rfl : k = 64 := by omega
      have HB := Box.mk (HR.comp hWW)
      have hb2 := HD.blk hb1
      have hS2 : Save w.heap.size b w wr := Save.of_below (hB1.trans HD.below)
      clear hK1 hW1 hWW HR HD hB1 hb1 hr hK hb
      have z0 := hb2.cell 0
      have z1 := hb2.cell 1
      have z2 := hb2.cell 2
      have z3 := hb2.cell 3
      have z4 := hb2.cell 4
      have z5 := hb2.cell 5
      have z6 := hb2.cell 6
      have z7 := hb2.cell 7
      simp only [S8.cells, S8.list, List.map_cons, List.cons_append, List.getElem?_cons_zero, List.getElem?_cons_succ] at z0 z1 z2 z3 z4 z5 z6 z7
      clear c0 c1 c2 c3 c4 c5 c6 c7
      have f0 := hb2.free 0
      have f1 := hb2.free 1
      have f2 := hb2.free 2
      have f3 := hb2.free 3
      have f4 := hb2.free 4
      have f5 := hb2.free 5
      have f6 := hb2.free 6
      have f7 := hb2.free 7
      have ua := U_add
      have HB2 := Box.mk hb2
      have HS2 := Box.mk hS2
      clear hb2 hS2
      go_wp2_with fail
      go_region
      go_wp2_with fail
      go_region
      go_wp2_with fail
      go_region
      go_wp2_with fail
      go_region
      go_wp2_with fail
      go_region
      go_wp2_with fail
      go_region
      go_wp2_with fail
      go_region
      go_wp2_with fail
      go_region
      go_wp2_with fail
      go_end0
      refine ⟨rfl, ?_, ?_⟩
      · rw [HB.out]
        iterate 8 with_reducible apply Blk.drew
        with_reducible exact set8 st _ _ _ _ _ _ _ _ HB2.out
      · iterate 8 with_reducible apply Save.drew
        with_reducible exact set8_save HS2.out _ _ _ _ _ _ _ _
end Go.Proofs.YtdnhpldcnmbncaaDoor
