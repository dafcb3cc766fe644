/- Walks of the document's right and block. -/
import Derived.Test.YtdnhpldcnmbncaaDoorShaN
import Derived.Test.YtdnhpldcnmbncaaDoorShaC
import Derived.Test.YtdnhpldcnmbncaaDoorQv
import Derived.Test.YtdnhpldcnmbncaaDoorCs
namespace Go.Proofs.YtdnhpldcnmbncaaDoor
open Go.RowKit

set_option maxHeartbeats 400000 in
theorem right_any (k : Int) (x : BitVec 32) (w : World) (hk : 1 ≤ k ∧ k ≤ 31) :
    Calls Tryd.prog 92 #[.int .u32 (U x), .int .i64 k] w fun e w' => e = .returned (.int .u32 (U (rotr x k.toNat))) ∧ ∃ n, w' = w.drewN n := by
  have e1 : min k.toNat 32 = k.toNat := by omega
  have e2 : min (32 - k).toNat 32 = (32 - k).toNat := by omega
  have e3 : IntKind.i64.wrap (32 - k) = 32 - k := IntWalk.i64_in _ (by omega)
  have e4 : 0 ≤ k := by omega
  have e5 : 0 ≤ 32 - k := by omega
  have h2 : U x * 2 ^ (32 - k).toNat % 4294967296 = U (x <<< (32 - k.toNat)) := by
    have := U_shl x (32 - k.toNat) (2 ^ (32 - k.toNat)) (by simp)
    rw [IntKind.wrap_u32] at this
    rw [show (32 - k).toNat = 32 - k.toNat by omega]; exact this
  have h3 := U_shr x k.toNat (2 ^ k.toNat) (by simp)
  have h4 := U_or
  go_enter Tryd.func92, Tryd.ntmps92
  go_wp2_with fail
  go_quiet (fail)
  go_wp2_with fail
  go_ret
  refine ⟨?_, _, rfl⟩
  show Ending.returned (Value.int .u32 (U (x >>> k.toNat ||| x <<< (32 - k.toNat)))) = _
  rw [BitVec.or_comm]; rfl

def zeros8 : Array Value := #[Value.int IntKind.u32 0, Value.int IntKind.u32 0, Value.int IntKind.u32 0, Value.int IntKind.u32 0, Value.int IntKind.u32 0, Value.int IntKind.u32 0, Value.int IntKind.u32 0, Value.int IntKind.u32 0]
theorem info_s8 : (Tryd.prog.info? 74).map (·.size) = some 8 := by kernel_rfl
theorem cells_one (st : S8) : st.cells.toArray.all (·.oneCell') = true := by rw [List.all_toArray, List.all_eq_true]; exact words_one _
theorem zeros_u8 : ((S8.mk 0 0 0 0 0 0 0 0).cells).toArray = #[Value.int IntKind.u32 0, Value.int IntKind.u32 0, Value.int IntKind.u32 0, Value.int IntKind.u32 0, Value.int IntKind.u32 0, Value.int IntKind.u32 0, Value.int IntKind.u32 0, Value.int IntKind.u32 0] := by kernel_rfl

theorem Blk.setRow_other {w : World} {b g : Nat} {cs : List Value} {t : TypeId} (h : Blk w b cs t) (hne : b ≠ g) (cs' : Array Value) : Blk (w.setRow g cs') b cs t := (Go.setRow_other w g b cs' hne).trans h
/-- Words that have been increased up to the i-th. -/
def mixAt (s r : S8) (i : Nat) : List (BitVec 32) := (List.zipWith (· + ·) s.list r.list).take i ++ s.list.drop i
def mixCells (s r : S8) (i : Nat) : List Value := (mixAt s r i).map fun x => Value.int .u32 (U x)
theorem mix_zero (s r : S8) : mixCells s r 0 = s.cells := rfl
theorem mix_end (s r : S8) : mixCells s r 8 = (S8.mk (s.a + r.a) (s.b + r.b) (s.c + r.c) (s.d + r.d) (s.e + r.e) (s.f + r.f) (s.g + r.g) (s.h + r.h)).cells := rfl
theorem mix_get (s r : S8) (i : Nat) (hi : i < 8) : (mixCells s r i)[i]? = some (.int .u32 (U (s.list.getD i 0))) := by
  obtain rfl | rfl | rfl | rfl | rfl | rfl | rfl | rfl : i = 0 ∨ i = 1 ∨ i = 2 ∨ i = 3 ∨ i = 4 ∨ i = 5 ∨ i = 6 ∨ i = 7 := by omega
  all_goals rfl
theorem cells_get (r : S8) (i : Nat) (hi : i < 8) : r.cells[i]? = some (.int .u32 (U (r.list.getD i 0))) := by
  obtain rfl | rfl | rfl | rfl | rfl | rfl | rfl | rfl : i = 0 ∨ i = 1 ∨ i = 2 ∨ i = 3 ∨ i = 4 ∨ i = 5 ∨ i = 6 ∨ i = 7 := by omega
  all_goals rfl
theorem mix_set (s r : S8) (i : Nat) (hi : i < 8) : (mixCells s r i).set i (.int .u32 (U (s.list.getD i 0 + r.list.getD i 0))) = mixCells s r (i + 1) := by
  obtain rfl | rfl | rfl | rfl | rfl | rfl | rfl | rfl : i = 0 ∨ i = 1 ∨ i = 2 ∨ i = 3 ∨ i = 4 ∨ i = 5 ∨ i = 6 ∨ i = 7 := by omega
  all_goals rfl
theorem Blk.mixed {w : World} {b : Nat} {s r : S8} {i : Nat} {t : TypeId} {x y : BitVec 32} (h : Blk w b (mixCells s r i) t) (hi : i < 8) (hx : Box (s.list.getD i 0 = x)) (hy : Box (r.list.getD i 0 = y)) :
    Blk (w.setCell ⟨b, i, none⟩ (.int .u32 (U (x + y)))) b (mixCells s r (i + 1)) t := by
  have := h.setCell i (.int .u32 (U (x + y)))
  rw [← hx.out, ← hy.out, mix_set s r i hi] at this
  rw [← hx.out, ← hy.out]; exact this

set_option maxHeartbeats 4000000 in
set_option maxRecDepth 100000 in
theorem block_any (st : S8) (l : List UInt8) (kb g at' len cap : Nat) (w : World) (hat : at' + 64 ≤ len) (hlen : len ≤ 140737488355328)
    (hk : ∀ i, i < 64 → w.cell? ⟨kb, i, none⟩ = some (.int .u32 (U (k64.getD i 0)))) (hb : ∀ i, i < 64 → w.cell? ⟨g, at' + i, none⟩ = some (.int .u8 (Y (l.getD i 0)))) :
    Calls Tryd.prog 82 #[.agg st.cells.toArray, .pointer (some ⟨kb, 0, none⟩), .slice (some ⟨g, 0, none⟩) len cap, .int .i64 (at' : Int)] w
      fun e w' => e = .returned (.agg (comp l st).cells.toArray) ∧ Below w.heap.size w w' := by
  obtain ⟨cm, hcm⟩ : ∃ cm, comp l st = cm := ⟨_, rfl⟩
  rw [hcm]
  replace hcm := Box.mk hcm
  have hkb : kb < w.heap.size := block_lt_of_cell (hk 0 (by omega))
  have hgb : g < w.heap.size := block_lt_of_cell (hb 0 (by omega))
  go_enter Tryd.func82, Tryd.ntmps82
  go_wp2_with fail
  have hB0 : Below w.heap.size w (((w.alloc (Obj.cells st.cells.toArray 74)).alloc (Obj.cells #[Value.int IntKind.u32 0, Value.int IntKind.u32 0, Value.int IntKind.u32 0, Value.int IntKind.u32 0, Value.int IntKind.u32 0, Value.int IntKind.u32 0, Value.int IntKind.u32 0, Value.int IntKind.u32 0] 74)).alloc (Obj.cells zeros64 95)) :=
    (((Below.refl _ w).alloc (Nat.le_refl _) _).alloc (by simp) _).alloc (by simp; omega) _
  have hV0 : Blk (((w.alloc (Obj.cells st.cells.toArray 74)).alloc (Obj.cells #[Value.int IntKind.u32 0, Value.int IntKind.u32 0, Value.int IntKind.u32 0, Value.int IntKind.u32 0, Value.int IntKind.u32 0, Value.int IntKind.u32 0, Value.int IntKind.u32 0, Value.int IntKind.u32 0] 74)).alloc (Obj.cells zeros64 95)) w.heap.size st.cells 74 :=
    ((Blk.new w st.cells 74).alloc _).alloc _
  have hR0 : Blk (((w.alloc (Obj.cells st.cells.toArray 74)).alloc (Obj.cells #[Value.int IntKind.u32 0, Value.int IntKind.u32 0, Value.int IntKind.u32 0, Value.int IntKind.u32 0, Value.int IntKind.u32 0, Value.int IntKind.u32 0, Value.int IntKind.u32 0, Value.int IntKind.u32 0] 74)).alloc (Obj.cells zeros64 95)) (w.heap.size + 1) (S8.mk 0 0 0 0 0 0 0 0).cells 74 := by
    have := (Blk.new (w.alloc (Obj.cells st.cells.toArray 74)) (S8.mk 0 0 0 0 0 0 0 0).cells 74).alloc (Obj.cells zeros64 95)
    rw [zeros_u8] at this
    simpa using this
  have hW0 : Blk (((w.alloc (Obj.cells st.cells.toArray 74)).alloc (Obj.cells #[Value.int IntKind.u32 0, Value.int IntKind.u32 0, Value.int IntKind.u32 0, Value.int IntKind.u32 0, Value.int IntKind.u32 0, Value.int IntKind.u32 0, Value.int IntKind.u32 0, Value.int IntKind.u32 0] 74)).alloc (Obj.cells zeros64 95)) (w.heap.size + 1 + 1) (wcells 64 []) 95 := by
    have := Blk.new ((w.alloc (Obj.cells st.cells.toArray 74)).alloc (Obj.cells #[Value.int IntKind.u32 0, Value.int IntKind.u32 0, Value.int IntKind.u32 0, Value.int IntKind.u32 0, Value.int IntKind.u32 0, Value.int IntKind.u32 0, Value.int IntKind.u32 0, Value.int IntKind.u32 0] 74)) (wcells 64 []) 95
    rw [zeros64_eq] at this
    simpa using this
  replace hB0 := Box.mk hB0
  replace hV0 := Box.mk hV0
  replace hR0 := Box.mk hR0
  replace hW0 := Box.mk hW0
  go_loopw [10, 11] (fun q _ wr => ∃ k : Nat, k ≤ 16 ∧ q = .int .i64 k ∧ Box (Blk wr (w.heap.size + 1 + 1) (wcells 64 (schedTo l k)) 95) ∧ Box (Blk wr w.heap.size st.cells 74) ∧ Box (Blk wr (w.heap.size + 1) (S8.mk 0 0 0 0 0 0 0 0).cells 74) ∧ Box (Below w.heap.size w wr)) (fun q _ _ => 16 - (intOf q).toNat)
  case atStart => exact ⟨0, by omega, rfl, hW0, hV0, hR0, hB0⟩
  case round =>
    clear hW0 hV0 hR0 hB0
    obtain ⟨k, hk16, rfl, hW, hV, hR, hB⟩ := hrel
    by_cases hlt : k < 16
    · have hst : wr.cell? ⟨w.heap.size + 1 + 1, k, none⟩ = some (.int .u32 0) := by
        rw [hW.out.cell]; exact wcells_zero 64 _ k (schedTo_length l k) (by omega)
      have hfz := hW.out.free k
      have hr : ∀ i, i < 64 → wr.cell? ⟨g, at' + i, none⟩ = some (.int .u8 (Y (l.getD i 0))) := fun i hi => by
        rw [hB.out.cell (p := ⟨g, at' + i, none⟩) hgb]; exact hb i hi
      obtain ⟨y0, hy0⟩ : ∃ y, l.getD (4 * k) 0 = y := ⟨_, rfl⟩
      obtain ⟨y1, hy1⟩ : ∃ y, l.getD (4 * k + 1) 0 = y := ⟨_, rfl⟩
      obtain ⟨y2, hy2⟩ : ∃ y, l.getD (4 * k + 2) 0 = y := ⟨_, rfl⟩
      obtain ⟨y3, hy3⟩ : ∃ y, l.getD (4 * k + 3) 0 = y := ⟨_, rfl⟩
      have c0 := hr (4 * k) (by omega)
      have c1 := hr (4 * k + 1) (by omega)
      have c2 := hr (4 * k + 2) (by omega)
      have c3 := hr (4 * k + 3) (by omega)
      rw [hy0] at c0; rw [hy1] at c1; rw [hy2] at c2; rw [hy3] at c3
      rw [← Nat.add_assoc] at c1 c2 c3
      have HY : Box (wordAt l k = y0.toBitVec.setWidth 32 <<< 24 ||| y1.toBitVec.setWidth 32 <<< 16 ||| y2.toBitVec.setWidth 32 <<< 8 ||| y3.toBitVec.setWidth 32) := ⟨by
        simp only [wordAt, byteAt, hy0, hy1, hy2, hy3]⟩
      clear hr hy0 hy1 hy2 hy3
      go_wp2_with fail
      have ux := Y_wrap
      have uo := U_or
      have us1 := fun a => U_shl a 24 16777216 (by decide)
      have us2 := fun a => U_shl a 16 65536 (by decide)
      have us3 := fun a => U_shl a 8 256 (by decide)
      refine region_quiet_tail_lit 31 (by kernel_rfl) (by kernel_rfl) ?_
      simp only [List.take_succ_cons, List.take_zero, List.drop_succ_cons, List.drop_zero]
      repeat (go_big_quiet_step (fail))
      refine wpQuiet_nil ?_
      intro _ hw'
      obtain ⟨nq, hw''⟩ := hw'
      subst hw''
      go_wp2_with fail
      have hm : 16 - (intOf (Value.int IntKind.i64 (↑k + 1))).toNat < 16 - (intOf (Value.int IntKind.i64 ↑k)).toNat := by simp [intOf]; omega
      refine ⟨⟨k + 1, by omega, by go_num, ⟨blk_low l k _ hlt HY.out hW.out⟩, ⟨?_⟩, ⟨?_⟩, ⟨?_⟩⟩, hm⟩
      · exact (hV.out.drewN nq).setCell_other _ _ (by simp; omega)
      · exact (hR.out.drewN nq).setCell_other _ _ (by simp)
      · exact Below.setCell (B := w.heap.size) (hB.out.trans (Drawn.below ⟨nq, rfl⟩)) (by simp; omega) _
    · obtain rfl : k = 16 := by omega
      clear hlt hk16
      rename_i wr
      go_wp2_with fail
      go_loopw [12, 13, 14] (fun q _ _ wr => ∃ k : Nat, 16 ≤ k ∧ k ≤ 64 ∧ q = .int .i64 k ∧ Box (Blk wr (w.heap.size + 1 + 1) (wcells 64 (schedTo l k)) 95) ∧ Box (Blk wr w.heap.size st.cells 74) ∧ Box (Blk wr (w.heap.size + 1) (S8.mk 0 0 0 0 0 0 0 0).cells 74) ∧ Box (Below w.heap.size w wr)) (fun q _ _ _ => 64 - (intOf q).toNat)
      case atStart => exact ⟨16, by omega, by omega, rfl, hW, hV, hR, hB⟩
      case round =>
        clear hW hV hR hB
        obtain ⟨k, hk0, hk64, rfl, hW, hV, hR, hB⟩ := hrel
        by_cases hlt : k < 64
        · obtain ⟨m, rfl⟩ : ∃ m, k = m + 16 := ⟨k - 16, by omega⟩
          have hfz := hW.out.free (m + 16)
          have hst := hW.out.cell (m + 16)
          rw [wcells_zero 64 _ _ (schedTo_length l (m + 16)) (by omega)] at hst
          have c0 := hW.out.cell m
          rw [wcells_get' 64 _ _ _ (schedTo_length l (m + 16)) (by omega)] at c0
          have c1 := hW.out.cell (m + 1)
          rw [wcells_get' 64 _ _ _ (schedTo_length l (m + 16)) (by omega)] at c1
          have c2 := hW.out.cell (m + 9)
          rw [wcells_get' 64 _ _ _ (schedTo_length l (m + 16)) (by omega)] at c2
          have c3 := hW.out.cell (m + 14)
          rw [wcells_get' 64 _ _ _ (schedTo_length l (m + 16)) (by omega)] at c3
          have HS := sched_high l m
          simp only [s0, s1] at HS
          generalize (schedTo l (m + 16)).getD m 0 = x0 at c0 HS
          generalize (schedTo l (m + 16)).getD (m + 1) 0 = x1 at c1 HS
          generalize (schedTo l (m + 16)).getD (m + 9) 0 = x2 at c2 HS
          generalize (schedTo l (m + 16)).getD (m + 14) 0 = x3 at c3 HS
          replace HS := Box.mk HS
          go_wp2_with fail
          have ua := U_add
          have ux := U_xor
          have us1 := fun a => U_shr a 3 8 (by decide)
          have us2 := fun a => U_shr a 10 1024 (by decide)
          refine region_quiet_tail_lit 29 (by kernel_rfl) (by kernel_rfl) ?_
          simp only [List.take_succ_cons, List.take_zero, List.drop_succ_cons, List.drop_zero]
          repeat (go_big_quiet_step ((go_at_call 92; exact Calls.quiet_of (right_any _ _ _ (by omega)))))
          refine wpQuiet_nil ?_
          intro _ hw'
          obtain ⟨nq, hw''⟩ := hw'
          subst hw''
          go_wp2_with fail
          have hm : 64 - (intOf (Value.int IntKind.i64 (↑(m + 16) + 1))).toNat < 64 - (intOf (Value.int IntKind.i64 ↑(m + 16))).toNat := by simp [intOf]; omega
          refine ⟨⟨m + 16 + 1, by omega, by omega, by go_num, ⟨blk_high l m _ hlt HS.out hW.out⟩, ⟨?_⟩, ⟨?_⟩, ⟨?_⟩⟩, hm⟩
          · exact (hV.out.drewN nq).setCell_other _ _ (by simp; omega)
          · exact (hR.out.drewN nq).setCell_other _ _ (by simp)
          · exact Below.setCell (B := w.heap.size) (hB.out.trans (Drawn.below ⟨nq, rfl⟩)) (by simp; omega) _
        · obtain rfl : k = 64 := by omega
          clear hlt hk0 hk64
          obtain ⟨W, hWW⟩ : ∃ W, SchedIs l W := ⟨_, ⟨rfl⟩⟩
          have hW2 := hW.out
          rw [← hWW.eq] at hW2
          replace hW := Box.mk hW2
          clear hW2
          rename_i wr
          obtain ⟨w3, rfl⟩ : ∃ w3 : World, w3 = wr := ⟨_, rfl⟩
          have hU0 : Box ((w3.alloc (.cells zeros8 74)).heap[w3.heap.size]? = some (.cells zeros8 74 (0, 0))) := ⟨heap_alloc_new w3 _⟩
          have hU1 : Blk (w3.alloc (.cells zeros8 74)) w3.heap.size (S8.mk 0 0 0 0 0 0 0 0).cells 74 := Blk.new w3 _ _
          have hU : Box (Blk ((w3.alloc (.cells zeros8 74)).setRow w3.heap.size st.cells.toArray) w3.heap.size st.cells 74) := ⟨setRow_blk hU1 st.cells⟩
          have hA : Below w3.heap.size w3 ((w3.alloc (.cells zeros8 74)).setRow w3.heap.size st.cells.toArray) := ((Below.refl _ _).alloc (Nat.le_refl _) _).trans ((setRow_save _ _ _ _).below (Nat.le_refl _))
          have hlt3 := hW.out.lt
          have hVs : Box (Blk ((w3.alloc (.cells zeros8 74)).setRow w3.heap.size st.cells.toArray) w.heap.size st.cells 74) := ⟨hV.out.below hA hV.out.lt⟩
          have hRs : Box (Blk ((w3.alloc (.cells zeros8 74)).setRow w3.heap.size st.cells.toArray) (w.heap.size + 1) (S8.mk 0 0 0 0 0 0 0 0).cells 74) := ⟨hR.out.below hA hR.out.lt⟩
          have hWs : Box (Blk ((w3.alloc (.cells zeros8 74)).setRow w3.heap.size st.cells.toArray) (w.heap.size + 1 + 1) (wcells 64 W) 95) := ⟨hW.out.below hA hlt3⟩
          have hBs : Box (Below w.heap.size w ((w3.alloc (.cells zeros8 74)).setRow w3.heap.size st.cells.toArray)) := ⟨hB.out.trans (hA.mono hB.out.size)⟩
          replace hA := Box.mk hA
          clear hU1
          go_wp2_with (first | (refine wpList_load_row rfl 74 (.tmp 4) rfl w.heap.size rfl 74 st.cells.toArray (0, 0) _ hV.out Tryd.underlying74 rfl info_s8 ?_) | (refine wpList_store_row rfl 74 (.tmp 15) (.tmp 102) rfl w3.heap.size st.cells.toArray rfl rfl 74 zeros8 hU0.out info_s8 rfl (cells_one st) ?_))
          clear hU0 hW hV hR hB hA
          go_loopw [16, 17, 18, 19, 20] (fun q _ _ _ _ wr => ∃ (k : Nat) (a b c d e f g h : BitVec 32), k ≤ 64 ∧ q = .int .i64 k ∧ RoundsAre W st k a b c d e f g h ∧ Box (Blk wr w3.heap.size (S8.mk a b c d e f g h).cells 74) ∧
            Box (Blk wr (w.heap.size + 1 + 1) (wcells 64 W) 95) ∧ Box (Blk wr w.heap.size st.cells 74) ∧ Box (Blk wr (w.heap.size + 1) (S8.mk 0 0 0 0 0 0 0 0).cells 74) ∧ Box (Below w.heap.size w wr)) (fun q _ _ _ _ _ => 64 - (intOf q).toNat)
          case atStart => exact ⟨0, st.a, st.b, st.c, st.d, st.e, st.f, st.g, st.h, by omega, rfl, RoundsAre.zero W st, hU, hWs, hVs, hRs, hBs⟩
          case round =>
            clear hU hVs hRs hWs hBs
            obtain ⟨k, a, b, c, d, e, f, g', h, hk64, rfl, HR, hU, hW, hV, hR, hB⟩ := hrel
            by_cases hlt : k < 64
            · have kk := hk k hlt
              rw [← hB.out.cell (p := ⟨kb, k, none⟩) hkb] at kk
              have ww := hW.out.cell k
              rw [wcells_get' 64 _ _ _ hWW.len hlt] at ww
              obtain ⟨kt, hkt⟩ : ∃ x, k64.getD k 0 = x := ⟨_, rfl⟩
              obtain ⟨wt, hwt⟩ : ∃ x, W.getD k 0 = x := ⟨_, rfl⟩
              rw [hkt] at kk
              rw [hwt] at ww
              have HK := Box.mk hkt
              have HW := Box.mk hwt
              clear hkt hwt
              have c0 := hU.out.cell 0
              have c1 := hU.out.cell 1
              have c2 := hU.out.cell 2
              have c3 := hU.out.cell 3
              have c4 := hU.out.cell 4
              have c5 := hU.out.cell 5
              have c6 := hU.out.cell 6
              have c7 := hU.out.cell 7
              simp only [S8.cells, S8.list, List.map_cons, List.getElem?_cons_zero, List.getElem?_cons_succ] at c0 c1 c2 c3 c4 c5 c6 c7
              go_wp2_with fail
              have ua := U_add
              have ux := U_xor
              have un := U_and
              have uo := U_not
              have us : (if IntKind.u32.signed = true then (-1 : Int) else IntKind.u32.max) = 4294967295 := by decide
              go_quiet ((go_at_call 92; exact Calls.quiet_of (right_any _ _ _ (by omega))))
              go_wp2_with fail
              have hU5 : Box (Blk (wr.drewN nq) w3.heap.size (S8.mk a b c d e f g' h).cells 74) := ⟨hU.out.drewN nq⟩
              have hW5 : Box (Blk (wr.drewN nq) (w.heap.size + 1 + 1) (wcells 64 W) 95) := ⟨hW.out.drewN nq⟩
              have hV5 : Box (Blk (wr.drewN nq) w.heap.size st.cells 74) := ⟨hV.out.drewN nq⟩
              have hR5 : Box (Blk (wr.drewN nq) (w.heap.size + 1) (S8.mk 0 0 0 0 0 0 0 0).cells 74) := ⟨hR.out.drewN nq⟩
              have hB5 : Box (Below w.heap.size w (wr.drewN nq)) := ⟨hB.out.trans (Drawn.below ⟨nq, rfl⟩)⟩
              clear c0 c1 c2 c3 c4 c5 c6 c7 kk ww hU hW hV hR hB
              generalize wr.drewN nq = w5 at *
              have c1 := hU5.out.cell 1
              have c2 := hU5.out.cell 2
              have c3 := hU5.out.cell 3
              have c5 := hU5.out.cell 5
              have c6 := hU5.out.cell 6
              simp only [S8.cells, S8.list, List.map_cons, List.getElem?_cons_zero, List.getElem?_cons_succ] at c1 c2 c3 c5 c6
              go_quiet ((go_at_call 92; exact Calls.quiet_of (right_any _ _ _ (by omega))))
              have hsr : (w5.drewN nq).heap[w3.heap.size]? = some (.cells (S8.mk a b c d e f g' h).cells.toArray 74 (0, 0)) := hU5.out
              replace hsr := Box.mk hsr
              go_wp2_with (refine wpList_store_row rfl 74 (.tmp 15) (.tmp 184) rfl w3.heap.size (S8.mk (h + S1 e + ((e &&& f) ^^^ (~~~ e &&& g')) + kt + wt + (S0 a + ((a &&& b) ^^^ (a &&& c) ^^^ (b &&& c)))) a b c (d + (h + S1 e + ((e &&& f) ^^^ (~~~ e &&& g')) + kt + wt)) e f g').cells.toArray rfl rfl 74 (S8.mk a b c d e f g' h).cells.toArray hsr.out info_s8 rfl (cells_one _) ?_)
              have hm : 64 - (intOf (Value.int IntKind.i64 (↑k + 1))).toNat < 64 - (intOf (Value.int IntKind.i64 ↑k)).toNat := by simp [intOf]; omega
              refine ⟨⟨k + 1, _, _, _, _, _, _, _, _, by omega, by go_num, HR.step HK HW, ⟨setRow_blk (hU5.out.drewN nq) _⟩, ⟨(hW5.out.drewN nq).setRow_other (by omega) _⟩, ⟨(hV5.out.drewN nq).setRow_other (by omega) _⟩, ⟨(hR5.out.drewN nq).setRow_other (by omega) _⟩, ⟨?_⟩⟩, hm⟩
              exact (hB5.out.trans (Drawn.below ⟨nq, rfl⟩)).trans ((setRow_save _ _ _ _).below (by omega))
            · obtain rfl : k = 64 := by omega
              have HC := Box.mk (HR.comp hWW)
              obtain ⟨r, hr⟩ : ∃ r, S8.mk a b c d e f g' h = r := ⟨_, rfl⟩
              have hcomp : Box (mixCells st r 8 = cm.cells) := ⟨by rw [mix_end, ← hcm.out, HC.out, ← hr]⟩
              rw [hr] at hU
              clear HC HR hW hr hlt hk64
              obtain ⟨w6, rfl⟩ : ∃ w6 : World, w6 = wr := ⟨_, rfl⟩
              go_wp2_with fail
              go_loopw [21] (fun q wr => ∃ i : Nat, i ≤ 8 ∧ q = .int .i64 i ∧ Box (Blk wr w3.heap.size r.cells 74) ∧ Box (Blk wr w.heap.size (mixCells st r i) 74) ∧ Box (Blk wr (w.heap.size + 1) (S8.mk 0 0 0 0 0 0 0 0).cells 74) ∧ Box (Below w.heap.size w wr)) (fun q _ => 8 - (intOf q).toNat)
              case atStart => exact ⟨0, by omega, rfl, hU, hV, hR, hB⟩
              case round =>
                clear hU hV hR hB
                obtain ⟨i, hi8, rfl, hU, hV, hR, hB⟩ := hrel
                by_cases hlt : i < 8
                · have cv := hV.out.cell i
                  rw [mix_get st r i hlt] at cv
                  have cu := hU.out.cell i
                  rw [cells_get r i hlt] at cu
                  obtain ⟨x, hx⟩ : ∃ x, st.list.getD i 0 = x := ⟨_, rfl⟩
                  obtain ⟨y, hy⟩ : ∃ x, r.list.getD i 0 = x := ⟨_, rfl⟩
                  rw [hx] at cv
                  rw [hy] at cu
                  replace hx := Box.mk hx
                  replace hy := Box.mk hy
                  have hfz := hV.out.free i
                  go_wp2_with fail
                  have ua := U_add
                  refine region_quiet_tail_lit 9 (by kernel_rfl) (by kernel_rfl) ?_
                  simp only [List.take_succ_cons, List.take_zero, List.drop_succ_cons, List.drop_zero]
                  repeat (go_big_quiet_step (fail))
                  refine wpQuiet_nil ?_
                  intro _ hw'
                  obtain ⟨nq, hw''⟩ := hw'
                  subst hw''
                  go_wp2_with fail
                  have hm : 8 - (intOf (Value.int IntKind.i64 (↑i + 1))).toNat < 8 - (intOf (Value.int IntKind.i64 ↑i)).toNat := by simp [intOf]; omega
                  refine ⟨⟨i + 1, by omega, by go_num, ⟨(hU.out.drewN nq).setCell_other _ _ (by simp; omega)⟩, ⟨Blk.mixed (hV.out.drewN nq) hlt hx hy⟩, ⟨(hR.out.drewN nq).setCell_other _ _ (by simp)⟩, ⟨?_⟩⟩, hm⟩
                  exact Below.setCell (B := w.heap.size) (hB.out.trans (Drawn.below ⟨nq, rfl⟩)) (by simp) _
                · obtain rfl : i = 8 := by omega
                  have hV8 := hV.out
                  rw [hcomp.out] at hV8
                  replace hV8 := Box.mk hV8
                  have hRR : Box (wr.heap[w.heap.size + 1]? = some (.cells (S8.mk 0 0 0 0 0 0 0 0).cells.toArray 74 (0, 0))) := ⟨hR.out⟩
                  have hEnd : Box (Blk (wr.setRow (w.heap.size + 1) cm.cells.toArray) (w.heap.size + 1) cm.cells 74) := ⟨setRow_blk hR.out _⟩
                  have hBe : Box (Below w.heap.size w (wr.setRow (w.heap.size + 1) cm.cells.toArray)) := ⟨hB.out.trans ((setRow_save _ _ _ _).below (by omega))⟩
                  clear hU hV hR hB hcomp
                  go_wp2_with (first | (refine wpList_load_row rfl 74 (.tmp 4) rfl w.heap.size rfl 74 cm.cells.toArray (0, 0) _ hV8.out Tryd.underlying74 rfl info_s8 ?_) | (refine wpList_store_row rfl 74 (.tmp 8) (.tmp 198) rfl (w.heap.size + 1) cm.cells.toArray rfl rfl 74 (S8.mk 0 0 0 0 0 0 0 0).cells.toArray hRR.out info_s8 rfl (cells_one cm) ?_))
                  refine bodyPost_ret (v := .agg cm.cells.toArray) (results_cell_row (p := 8) rfl _ _ (w.heap.size + 1) 74 cm.cells.toArray (0, 0) _ rfl hEnd.out Tryd.underlying74 rfl info_s8) rfl ⟨rfl, hBe.out⟩
end Go.Proofs.YtdnhpldcnmbncaaDoor
