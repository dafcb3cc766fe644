/- Walks of the document's right and block. | Walks of the document's number, words and hash. | Walk of the document's hash. | Walks of the document's Sum and Tag over parts, and of sha.Tag. | Walks of the document's Tag and of sha.Tag. | Walk of sha.Tag. | Walk of sha.Tag, over parts of any size. | One-time signatures as functions on texts: secrets, links, digits, signatures. No program is named. | Keys of many signatures as functions on texts: the tree, what stands beside a leaf, IDs, signatures' bytes, what is verified. No program is named. -/
import Derived.Lib.AppendStr
import Derived.Test.YtiblkfkeifnpaaaGreatDoorZa1
import Derived.Test.YtiblkfkeifnpaaaGreatDoorZa5
import Derived.Test.YtiblkfkeifnpaaaGreatDoorZa6
set_option linter.all false
namespace Go.Proofs.YtiblkfkeifnpaaaGreatDoor
open Go.RowKit

set_option maxHeartbeats 400000 in
theorem right_any (k : Int) (x : BitVec 32) (w : World) (hk : 1 ≤ k ∧ k ≤ 31) :
    Calls Tryz.prog 129 #[.int .u32 (U x), .int .i64 k] w fun e w' => e = .returned (.int .u32 (U (rotr x k.toNat))) ∧ ∃ n, w' = w.drewN n := by
  have e1 : min k.toNat 32 = k.toNat := by omega
  have e2 : min (32 - k).toNat 32 = (32 - k).toNat := by omega
  have e3 : IntKind.i64.wrap (32 - k) = 32 - k := IntWalk.i64_in _ (by omega)
  have e4 : 0 ≤ k := by omega
  have e5 : 0 ≤ 32 - k := by omega
  have h2 : U x * 2 ^ (32 - k).toNat % 4294967296 = U (x <<< (32 - k.toNat)) := by
    have := U_shl x (32 - k.toNat) (2 ^ (32 - k.toNat)) (by simp)
    rw [IntKind.wrap_u32] at this
    rw [show (32 - k).toNat = 32 - k.toNat by omega]; exact this
  have h3 := U_shr x k.toNat (2 ^ k.toNat) (by simp)
  have h4 := U_or
  go_enter Tryz.func129, Tryz.ntmps129
  go_wp2_with fail
  go_quiet (fail)
  go_wp2_with fail
  go_ret
  refine ⟨?_, _, rfl⟩
  show Ending.returned (Value.int .u32 (U (x >>> k.toNat ||| x <<< (32 - k.toNat)))) = _
  rw [BitVec.or_comm]; rfl

def zeros8 : Array Value := #[Value.int IntKind.u32 0, Value.int IntKind.u32 0, Value.int IntKind.u32 0, Value.int IntKind.u32 0, Value.int IntKind.u32 0, Value.int IntKind.u32 0, Value.int IntKind.u32 0, Value.int IntKind.u32 0]
theorem info_s8 : (Tryz.prog.info? 128).map (·.size) = some 8 := by kernel_rfl
theorem cells_one (st : S8) : st.cells.toArray.all (·.oneCell') = true := by rw [List.all_toArray, List.all_eq_true]; exact words_one _
theorem zeros_u8 : ((S8.mk 0 0 0 0 0 0 0 0).cells).toArray = #[Value.int IntKind.u32 0, Value.int IntKind.u32 0, Value.int IntKind.u32 0, Value.int IntKind.u32 0, Value.int IntKind.u32 0, Value.int IntKind.u32 0, Value.int IntKind.u32 0, Value.int IntKind.u32 0] := by kernel_rfl

theorem Blk.setRow_other {w : World} {b g : Nat} {cs : List Value} {t : TypeId} (h : Blk w b cs t) (hne : b ≠ g) (cs' : Array Value) : Blk (w.setRow g cs') b cs t := (Go.setRow_other w g b cs' hne).trans h
/-- Words that have been increased up to the i-th. -/
def mixAt (s r : S8) (i : Nat) : List (BitVec 32) := (List.zipWith (· + ·) s.list r.list).take i ++ s.list.drop i
def mixCells (s r : S8) (i : Nat) : List Value := (mixAt s r i).map fun x => Value.int .u32 (U x)
theorem mix_end (s r : S8) : mixCells s r 8 = (S8.mk (s.a + r.a) (s.b + r.b) (s.c + r.c) (s.d + r.d) (s.e + r.e) (s.f + r.f) (s.g + r.g) (s.h + r.h)).cells := rfl
theorem mix_get (s r : S8) (i : Nat) (hi : i < 8) : (mixCells s r i)[i]? = some (.int .u32 (U (s.list.getD i 0))) := by
  obtain rfl | rfl | rfl | rfl | rfl | rfl | rfl | rfl : i = 0 ∨ i = 1 ∨ i = 2 ∨ i = 3 ∨ i = 4 ∨ i = 5 ∨ i = 6 ∨ i = 7 := by omega
  all_goals rfl
theorem cells_get (r : S8) (i : Nat) (hi : i < 8) : r.cells[i]? = some (.int .u32 (U (r.list.getD i 0))) := by
  obtain rfl | rfl | rfl | rfl | rfl | rfl | rfl | rfl : i = 0 ∨ i = 1 ∨ i = 2 ∨ i = 3 ∨ i = 4 ∨ i = 5 ∨ i = 6 ∨ i = 7 := by omega
  all_goals rfl
theorem mix_set (s r : S8) (i : Nat) (hi : i < 8) : (mixCells s r i).set i (.int .u32 (U (s.list.getD i 0 + r.list.getD i 0))) = mixCells s r (i + 1) := by
  obtain rfl | rfl | rfl | rfl | rfl | rfl | rfl | rfl : i = 0 ∨ i = 1 ∨ i = 2 ∨ i = 3 ∨ i = 4 ∨ i = 5 ∨ i = 6 ∨ i = 7 := by omega
  all_goals rfl
theorem Blk.mixed {w : World} {b : Nat} {s r : S8} {i : Nat} {t : TypeId} {x y : BitVec 32} (h : Blk w b (mixCells s r i) t) (hi : i < 8) (hx : Box (s.list.getD i 0 = x)) (hy : Box (r.list.getD i 0 = y)) :
    Blk (w.setCell ⟨b, i, none⟩ (.int .u32 (U (x + y)))) b (mixCells s r (i + 1)) t := by
  have := h.setCell i (.int .u32 (U (x + y)))
  rw [← hx.out, ← hy.out, mix_set s r i hi] at this
  rw [← hx.out, ← hy.out]; exact this

set_option maxHeartbeats 4000000 in
set_option maxRecDepth 100000 in
theorem block_any (st : S8) (l : List UInt8) (kb g at' len cap : Nat) (w : World) (hat : at' + 64 ≤ len) (hlen : len ≤ 140737488355328)
    (hk : ∀ i, i < 64 → w.cell? ⟨kb, i, none⟩ = some (.int .u32 (U (k64.getD i 0)))) (hb : ∀ i, i < 64 → w.cell? ⟨g, at' + i, none⟩ = some (.int .u8 (Y (l.getD i 0)))) :
    Calls Tryz.prog 105 #[.agg st.cells.toArray, .pointer (some ⟨kb, 0, none⟩), .slice (some ⟨g, 0, none⟩) len cap, .int .i64 (at' : Int)] w
      fun e w' => e = .returned (.agg (comp l st).cells.toArray) ∧ Below w.heap.size w w' := by
  obtain ⟨cm, hcm⟩ : ∃ cm, comp l st = cm := ⟨_, rfl⟩
  rw [hcm]
  replace hcm := Box.mk hcm
  have hkb : kb < w.heap.size := block_lt_of_cell (hk 0 (by omega))
  have hgb : g < w.heap.size := block_lt_of_cell (hb 0 (by omega))
  go_enter Tryz.func105, Tryz.ntmps105
  go_wp2_with fail
  have hB0 : Below w.heap.size w (((w.alloc (Obj.cells st.cells.toArray 128)).alloc (Obj.cells #[Value.int IntKind.u32 0, Value.int IntKind.u32 0, Value.int IntKind.u32 0, Value.int IntKind.u32 0, Value.int IntKind.u32 0, Value.int IntKind.u32 0, Value.int IntKind.u32 0, Value.int IntKind.u32 0] 128)).alloc (Obj.cells zeros64 133)) :=
    (((Below.refl _ w).alloc (Nat.le_refl _) _).alloc (by simp) _).alloc (by simp; omega) _
  have hV0 : Blk (((w.alloc (Obj.cells st.cells.toArray 128)).alloc (Obj.cells #[Value.int IntKind.u32 0, Value.int IntKind.u32 0, Value.int IntKind.u32 0, Value.int IntKind.u32 0, Value.int IntKind.u32 0, Value.int IntKind.u32 0, Value.int IntKind.u32 0, Value.int IntKind.u32 0] 128)).alloc (Obj.cells zeros64 133)) w.heap.size st.cells 128 :=
    ((Blk.new w st.cells 128).alloc _).alloc _
  have hR0 : Blk (((w.alloc (Obj.cells st.cells.toArray 128)).alloc (Obj.cells #[Value.int IntKind.u32 0, Value.int IntKind.u32 0, Value.int IntKind.u32 0, Value.int IntKind.u32 0, Value.int IntKind.u32 0, Value.int IntKind.u32 0, Value.int IntKind.u32 0, Value.int IntKind.u32 0] 128)).alloc (Obj.cells zeros64 133)) (w.heap.size + 1) (S8.mk 0 0 0 0 0 0 0 0).cells 128 := by
    have := (Blk.new (w.alloc (Obj.cells st.cells.toArray 128)) (S8.mk 0 0 0 0 0 0 0 0).cells 128).alloc (Obj.cells zeros64 133)
    rw [zeros_u8] at this
    simpa using this
  have hW0 : Blk (((w.alloc (Obj.cells st.cells.toArray 128)).alloc (Obj.cells #[Value.int IntKind.u32 0, Value.int IntKind.u32 0, Value.int IntKind.u32 0, Value.int IntKind.u32 0, Value.int IntKind.u32 0, Value.int IntKind.u32 0, Value.int IntKind.u32 0, Value.int IntKind.u32 0] 128)).alloc (Obj.cells zeros64 133)) (w.heap.size + 1 + 1) (wcells 64 []) 133 := by
    have := Blk.new ((w.alloc (Obj.cells st.cells.toArray 128)).alloc (Obj.cells #[Value.int IntKind.u32 0, Value.int IntKind.u32 0, Value.int IntKind.u32 0, Value.int IntKind.u32 0, Value.int IntKind.u32 0, Value.int IntKind.u32 0, Value.int IntKind.u32 0, Value.int IntKind.u32 0] 128)) (wcells 64 []) 133
    rw [zeros64_eq] at this
    simpa using this
  replace hB0 := Box.mk hB0
  replace hV0 := Box.mk hV0
  replace hR0 := Box.mk hR0
  replace hW0 := Box.mk hW0
  go_loopw [10, 11] (fun q _ wr => ∃ k : Nat, k ≤ 16 ∧ q = .int .i64 k ∧ Box (Blk wr (w.heap.size + 1 + 1) (wcells 64 (schedTo l k)) 133) ∧ Box (Blk wr w.heap.size st.cells 128) ∧ Box (Blk wr (w.heap.size + 1) (S8.mk 0 0 0 0 0 0 0 0).cells 128) ∧ Box (Below w.heap.size w wr)) (fun q _ _ => 16 - (intOf q).toNat)
  case atStart => exact ⟨0, by omega, rfl, hW0, hV0, hR0, hB0⟩
  case round =>
    clear hW0 hV0 hR0 hB0
    obtain ⟨k, hk16, rfl, hW, hV, hR, hB⟩ := hrel
    by_cases hlt : k < 16
    · have hst : wr.cell? ⟨w.heap.size + 1 + 1, k, none⟩ = some (.int .u32 0) := by
        rw [hW.out.cell]; exact wcells_zero 64 _ k (schedTo_length l k) (by omega)
      have hfz := hW.out.free k
      have hr : ∀ i, i < 64 → wr.cell? ⟨g, at' + i, none⟩ = some (.int .u8 (Y (l.getD i 0))) := fun i hi => by
        rw [hB.out.cell (p := ⟨g, at' + i, none⟩) hgb]; exact hb i hi
      obtain ⟨y0, hy0⟩ : ∃ y, l.getD (4 * k) 0 = y := ⟨_, rfl⟩
      obtain ⟨y1, hy1⟩ : ∃ y, l.getD (4 * k + 1) 0 = y := ⟨_, rfl⟩
      obtain ⟨y2, hy2⟩ : ∃ y, l.getD (4 * k + 2) 0 = y := ⟨_, rfl⟩
      obtain ⟨y3, hy3⟩ : ∃ y, l.getD (4 * k + 3) 0 = y := ⟨_, rfl⟩
      have c0 := hr (4 * k) (by omega)
      have c1 := hr (4 * k + 1) (by omega)
      have c2 := hr (4 * k + 2) (by omega)
      have c3 := hr (4 * k + 3) (by omega)
      rw [hy0] at c0; rw [hy1] at c1; rw [hy2] at c2; rw [hy3] at c3
      rw [← Nat.add_assoc] at c1 c2 c3
      have HY : Box (wordAt l k = y0.toBitVec.setWidth 32 <<< 24 ||| y1.toBitVec.setWidth 32 <<< 16 ||| y2.toBitVec.setWidth 32 <<< 8 ||| y3.toBitVec.setWidth 32) := ⟨by
        simp only [wordAt, byteAt, hy0, hy1, hy2, hy3]⟩
      clear hr hy0 hy1 hy2 hy3
      go_wp2_with fail
      have ux := Y_wrap
      have uo := U_or
      have us1 := fun a => U_shl a 24 16777216 (by decide)
      have us2 := fun a => U_shl a 16 65536 (by decide)
      have us3 := fun a => U_shl a 8 256 (by decide)
      refine region_quiet_tail_lit 31 (by kernel_rfl) (by kernel_rfl) ?_
      simp only [List.take_succ_cons, List.take_zero, List.drop_succ_cons, List.drop_zero]
      repeat (go_big_quiet_step (fail))
      refine wpQuiet_nil ?_
      intro _ hw'
      obtain ⟨nq, hw''⟩ := hw'
      subst hw''
      go_wp2_with fail
      have hm : 16 - (intOf (Value.int IntKind.i64 (↑k + 1))).toNat < 16 - (intOf (Value.int IntKind.i64 ↑k)).toNat := by simp [intOf]; omega
      refine ⟨⟨k + 1, by omega, by go_num, ⟨blk_low l k _ hlt HY.out hW.out⟩, ⟨?_⟩, ⟨?_⟩, ⟨?_⟩⟩, hm⟩
      · exact (hV.out.drewN nq).setCell_other _ _ (by simp; omega)
      · exact (hR.out.drewN nq).setCell_other _ _ (by simp)
      · exact Below.setCell (B := w.heap.size) (hB.out.trans (Drawn.below ⟨nq, rfl⟩)) (by simp; omega) _
    · obtain rfl : k = 16 := by omega
      clear hlt hk16
      rename_i wr
      go_wp2_with fail
      go_loopw [12, 13, 14] (fun q _ _ wr => ∃ k : Nat, 16 ≤ k ∧ k ≤ 64 ∧ q = .int .i64 k ∧ Box (Blk wr (w.heap.size + 1 + 1) (wcells 64 (schedTo l k)) 133) ∧ Box (Blk wr w.heap.size st.cells 128) ∧ Box (Blk wr (w.heap.size + 1) (S8.mk 0 0 0 0 0 0 0 0).cells 128) ∧ Box (Below w.heap.size w wr)) (fun q _ _ _ => 64 - (intOf q).toNat)
      case atStart => exact ⟨16, by omega, by omega, rfl, hW, hV, hR, hB⟩
      case round =>
        clear hW hV hR hB
        obtain ⟨k, hk0, hk64, rfl, hW, hV, hR, hB⟩ := hrel
        by_cases hlt : k < 64
        · obtain ⟨m, rfl⟩ : ∃ m, k = m + 16 := ⟨k - 16, by omega⟩
          have hfz := hW.out.free (m + 16)
          have hst := hW.out.cell (m + 16)
          rw [wcells_zero 64 _ _ (schedTo_length l (m + 16)) (by omega)] at hst
          have c0 := hW.out.cell m
          rw [wcells_get' 64 _ _ _ (schedTo_length l (m + 16)) (by omega)] at c0
          have c1 := hW.out.cell (m + 1)
          rw [wcells_get' 64 _ _ _ (schedTo_length l (m + 16)) (by omega)] at c1
          have c2 := hW.out.cell (m + 9)
          rw [wcells_get' 64 _ _ _ (schedTo_length l (m + 16)) (by omega)] at c2
          have c3 := hW.out.cell (m + 14)
          rw [wcells_get' 64 _ _ _ (schedTo_length l (m + 16)) (by omega)] at c3
          have HS := sched_high l m
          simp only [s0, s1] at HS
          generalize (schedTo l (m + 16)).getD m 0 = x0 at c0 HS
          generalize (schedTo l (m + 16)).getD (m + 1) 0 = x1 at c1 HS
          generalize (schedTo l (m + 16)).getD (m + 9) 0 = x2 at c2 HS
          generalize (schedTo l (m + 16)).getD (m + 14) 0 = x3 at c3 HS
          replace HS := Box.mk HS
          go_wp2_with fail
          have ua := U_add
          have ux := U_xor
          have us1 := fun a => U_shr a 3 8 (by decide)
          have us2 := fun a => U_shr a 10 1024 (by decide)
          refine region_quiet_tail_lit 29 (by kernel_rfl) (by kernel_rfl) ?_
          simp only [List.take_succ_cons, List.take_zero, List.drop_succ_cons, List.drop_zero]
          repeat (go_big_quiet_step ((go_at_call 129; exact Calls.quiet_of (right_any _ _ _ (by omega)))))
          refine wpQuiet_nil ?_
          intro _ hw'
          obtain ⟨nq, hw''⟩ := hw'
          subst hw''
          go_wp2_with fail
          have hm : 64 - (intOf (Value.int IntKind.i64 (↑(m + 16) + 1))).toNat < 64 - (intOf (Value.int IntKind.i64 ↑(m + 16))).toNat := by simp [intOf]; omega
          refine ⟨⟨m + 16 + 1, by omega, by omega, by go_num, ⟨blk_high l m _ hlt HS.out hW.out⟩, ⟨?_⟩, ⟨?_⟩, ⟨?_⟩⟩, hm⟩
          · exact (hV.out.drewN nq).setCell_other _ _ (by simp; omega)
          · exact (hR.out.drewN nq).setCell_other _ _ (by simp)
          · exact Below.setCell (B := w.heap.size) (hB.out.trans (Drawn.below ⟨nq, rfl⟩)) (by simp; omega) _
        · obtain rfl : k = 64 := by omega
          clear hlt hk0 hk64
          obtain ⟨W, hWW⟩ : ∃ W, SchedIs l W := ⟨_, ⟨rfl⟩⟩
          have hW2 := hW.out
          rw [← hWW.eq] at hW2
          replace hW := Box.mk hW2
          clear hW2
          rename_i wr
          obtain ⟨w3, rfl⟩ : ∃ w3 : World, w3 = wr := ⟨_, rfl⟩
          have hU0 : Box ((w3.alloc (.cells zeros8 128)).heap[w3.heap.size]? = some (.cells zeros8 128 (0, 0))) := ⟨heap_alloc_new w3 _⟩
          have hU1 : Blk (w3.alloc (.cells zeros8 128)) w3.heap.size (S8.mk 0 0 0 0 0 0 0 0).cells 128 := Blk.new w3 _ _
          have hU : Box (Blk ((w3.alloc (.cells zeros8 128)).setRow w3.heap.size st.cells.toArray) w3.heap.size st.cells 128) := ⟨setRow_blk hU1 st.cells⟩
          have hA : Below w3.heap.size w3 ((w3.alloc (.cells zeros8 128)).setRow w3.heap.size st.cells.toArray) := ((Below.refl _ _).alloc (Nat.le_refl _) _).trans ((setRow_save _ _ _ _).below (Nat.le_refl _))
          have hlt3 := hW.out.lt
          have hVs : Box (Blk ((w3.alloc (.cells zeros8 128)).setRow w3.heap.size st.cells.toArray) w.heap.size st.cells 128) := ⟨hV.out.below hA hV.out.lt⟩
          have hRs : Box (Blk ((w3.alloc (.cells zeros8 128)).setRow w3.heap.size st.cells.toArray) (w.heap.size + 1) (S8.mk 0 0 0 0 0 0 0 0).cells 128) := ⟨hR.out.below hA hR.out.lt⟩
          have hWs : Box (Blk ((w3.alloc (.cells zeros8 128)).setRow w3.heap.size st.cells.toArray) (w.heap.size + 1 + 1) (wcells 64 W) 133) := ⟨hW.out.below hA hlt3⟩
          have hBs : Box (Below w.heap.size w ((w3.alloc (.cells zeros8 128)).setRow w3.heap.size st.cells.toArray)) := ⟨hB.out.trans (hA.mono hB.out.size)⟩
          replace hA := Box.mk hA
          clear hU1
          go_wp2_with (first | (refine wpList_load_row rfl 128 (.tmp 4) rfl w.heap.size rfl 128 st.cells.toArray (0, 0) _ hV.out Tryz.underlying128 rfl info_s8 ?_) | (refine wpList_store_row rfl 128 (.tmp 15) (.tmp 102) rfl w3.heap.size st.cells.toArray rfl rfl 128 zeros8 hU0.out info_s8 rfl (cells_one st) ?_))
          clear hU0 hW hV hR hB hA
          go_loopw [16, 17, 18, 19, 20] (fun q _ _ _ _ wr => ∃ (k : Nat) (a b c d e f g h : BitVec 32), k ≤ 64 ∧ q = .int .i64 k ∧ RoundsAre W st k a b c d e f g h ∧ Box (Blk wr w3.heap.size (S8.mk a b c d e f g h).cells 128) ∧
            Box (Blk wr (w.heap.size + 1 + 1) (wcells 64 W) 133) ∧ Box (Blk wr w.heap.size st.cells 128) ∧ Box (Blk wr (w.heap.size + 1) (S8.mk 0 0 0 0 0 0 0 0).cells 128) ∧ Box (Below w.heap.size w wr)) (fun q _ _ _ _ _ => 64 - (intOf q).toNat)
          case atStart => exact ⟨0, st.a, st.b, st.c, st.d, st.e, st.f, st.g, st.h, by omega, rfl, RoundsAre.zero W st, hU, hWs, hVs, hRs, hBs⟩
          case round =>
            clear hU hVs hRs hWs hBs
            obtain ⟨k, a, b, c, d, e, f, g', h, hk64, rfl, HR, hU, hW, hV, hR, hB⟩ := hrel
            by_cases hlt : k < 64
            · have kk := hk k hlt
              rw [← hB.out.cell (p := ⟨kb, k, none⟩) hkb] at kk
              have ww := hW.out.cell k
              rw [wcells_get' 64 _ _ _ hWW.len hlt] at ww
              obtain ⟨kt, hkt⟩ : ∃ x, k64.getD k 0 = x := ⟨_, rfl⟩
              obtain ⟨wt, hwt⟩ : ∃ x, W.getD k 0 = x := ⟨_, rfl⟩
              rw [hkt] at kk
              rw [hwt] at ww
              have HK := Box.mk hkt
              have HW := Box.mk hwt
              clear hkt hwt
              have c0 := hU.out.cell 0
              have c1 := hU.out.cell 1
              have c2 := hU.out.cell 2
              have c3 := hU.out.cell 3
              have c4 := hU.out.cell 4
              have c5 := hU.out.cell 5
              have c6 := hU.out.cell 6
              have c7 := hU.out.cell 7
              simp only [S8.cells, S8.list, List.map_cons, List.getElem?_cons_zero, List.getElem?_cons_succ] at c0 c1 c2 c3 c4 c5 c6 c7
              go_wp2_with fail
              have ua := U_add
              have ux := U_xor
              have un := U_and
              have uo := U_not
              have us : (if IntKind.u32.signed = true then (-1 : Int) else IntKind.u32.max) = 4294967295 := by decide
              go_quiet ((go_at_call 129; exact Calls.quiet_of (right_any _ _ _ (by omega))))
              go_wp2_with fail
              have hU5 : Box (Blk (wr.drewN nq) w3.heap.size (S8.mk a b c d e f g' h).cells 128) := ⟨hU.out.drewN nq⟩
              have hW5 : Box (Blk (wr.drewN nq) (w.heap.size + 1 + 1) (wcells 64 W) 133) := ⟨hW.out.drewN nq⟩
              have hV5 : Box (Blk (wr.drewN nq) w.heap.size st.cells 128) := ⟨hV.out.drewN nq⟩
              have hR5 : Box (Blk (wr.drewN nq) (w.heap.size + 1) (S8.mk 0 0 0 0 0 0 0 0).cells 128) := ⟨hR.out.drewN nq⟩
              have hB5 : Box (Below w.heap.size w (wr.drewN nq)) := ⟨hB.out.trans (Drawn.below ⟨nq, rfl⟩)⟩
              clear c0 c1 c2 c3 c4 c5 c6 c7 kk ww hU hW hV hR hB
              generalize wr.drewN nq = w5 at *
              have c1 := hU5.out.cell 1
              have c2 := hU5.out.cell 2
              have c3 := hU5.out.cell 3
              have c5 := hU5.out.cell 5
              have c6 := hU5.out.cell 6
              simp only [S8.cells, S8.list, List.map_cons, List.getElem?_cons_zero, List.getElem?_cons_succ] at c1 c2 c3 c5 c6
              go_quiet ((go_at_call 129; exact Calls.quiet_of (right_any _ _ _ (by omega))))
              have hsr : (w5.drewN nq).heap[w3.heap.size]? = some (.cells (S8.mk a b c d e f g' h).cells.toArray 128 (0, 0)) := hU5.out
              replace hsr := Box.mk hsr
              go_wp2_with (refine wpList_store_row rfl 128 (.tmp 15) (.tmp 184) rfl w3.heap.size (S8.mk (h + S1 e + ((e &&& f) ^^^ (~~~ e &&& g')) + kt + wt + (S0 a + ((a &&& b) ^^^ (a &&& c) ^^^ (b &&& c)))) a b c (d + (h + S1 e + ((e &&& f) ^^^ (~~~ e &&& g')) + kt + wt)) e f g').cells.toArray rfl rfl 128 (S8.mk a b c d e f g' h).cells.toArray hsr.out info_s8 rfl (cells_one _) ?_)
              have hm : 64 - (intOf (Value.int IntKind.i64 (↑k + 1))).toNat < 64 - (intOf (Value.int IntKind.i64 ↑k)).toNat := by simp [intOf]; omega
              refine ⟨⟨k + 1, _, _, _, _, _, _, _, _, by omega, by go_num, HR.step HK HW, ⟨setRow_blk (hU5.out.drewN nq) _⟩, ⟨(hW5.out.drewN nq).setRow_other (by omega) _⟩, ⟨(hV5.out.drewN nq).setRow_other (by omega) _⟩, ⟨(hR5.out.drewN nq).setRow_other (by omega) _⟩, ⟨?_⟩⟩, hm⟩
              exact (hB5.out.trans (Drawn.below ⟨nq, rfl⟩)).trans ((setRow_save _ _ _ _).below (by omega))
            · obtain rfl : k = 64 := by omega
              have HC := Box.mk (HR.comp hWW)
              obtain ⟨r, hr⟩ : ∃ r, S8.mk a b c d e f g' h = r := ⟨_, rfl⟩
              have hcomp : Box (mixCells st r 8 = cm.cells) := ⟨by rw [mix_end, ← hcm.out, HC.out, ← hr]⟩
              rw [hr] at hU
              clear HC HR hW hr hlt hk64
              obtain ⟨w6, rfl⟩ : ∃ w6 : World, w6 = wr := ⟨_, rfl⟩
              go_wp2_with fail
              go_loopw [21] (fun q wr => ∃ i : Nat, i ≤ 8 ∧ q = .int .i64 i ∧ Box (Blk wr w3.heap.size r.cells 128) ∧ Box (Blk wr w.heap.size (mixCells st r i) 128) ∧ Box (Blk wr (w.heap.size + 1) (S8.mk 0 0 0 0 0 0 0 0).cells 128) ∧ Box (Below w.heap.size w wr)) (fun q _ => 8 - (intOf q).toNat)
              case atStart => exact ⟨0, by omega, rfl, hU, hV, hR, hB⟩
              case round =>
                clear hU hV hR hB
                obtain ⟨i, hi8, rfl, hU, hV, hR, hB⟩ := hrel
                by_cases hlt : i < 8
                · have cv := hV.out.cell i
                  rw [mix_get st r i hlt] at cv
                  have cu := hU.out.cell i
                  rw [cells_get r i hlt] at cu
                  obtain ⟨x, hx⟩ : ∃ x, st.list.getD i 0 = x := ⟨_, rfl⟩
                  obtain ⟨y, hy⟩ : ∃ x, r.list.getD i 0 = x := ⟨_, rfl⟩
                  rw [hx] at cv
                  rw [hy] at cu
                  replace hx := Box.mk hx
                  replace hy := Box.mk hy
                  have hfz := hV.out.free i
                  go_wp2_with fail
                  have ua := U_add
                  refine region_quiet_tail_lit 9 (by kernel_rfl) (by kernel_rfl) ?_
                  simp only [List.take_succ_cons, List.take_zero, List.drop_succ_cons, List.drop_zero]
                  repeat (go_big_quiet_step (fail))
                  refine wpQuiet_nil ?_
                  intro _ hw'
                  obtain ⟨nq, hw''⟩ := hw'
                  subst hw''
                  go_wp2_with fail
                  have hm : 8 - (intOf (Value.int IntKind.i64 (↑i + 1))).toNat < 8 - (intOf (Value.int IntKind.i64 ↑i)).toNat := by simp [intOf]; omega
                  refine ⟨⟨i + 1, by omega, by go_num, ⟨(hU.out.drewN nq).setCell_other _ _ (by simp; omega)⟩, ⟨Blk.mixed (hV.out.drewN nq) hlt hx hy⟩, ⟨(hR.out.drewN nq).setCell_other _ _ (by simp)⟩, ⟨?_⟩⟩, hm⟩
                  exact Below.setCell (B := w.heap.size) (hB.out.trans (Drawn.below ⟨nq, rfl⟩)) (by simp) _
                · obtain rfl : i = 8 := by omega
                  have hV8 := hV.out
                  rw [hcomp.out] at hV8
                  replace hV8 := Box.mk hV8
                  have hRR : Box (wr.heap[w.heap.size + 1]? = some (.cells (S8.mk 0 0 0 0 0 0 0 0).cells.toArray 128 (0, 0))) := ⟨hR.out⟩
                  have hEnd : Box (Blk (wr.setRow (w.heap.size + 1) cm.cells.toArray) (w.heap.size + 1) cm.cells 128) := ⟨setRow_blk hR.out _⟩
                  have hBe : Box (Below w.heap.size w (wr.setRow (w.heap.size + 1) cm.cells.toArray)) := ⟨hB.out.trans ((setRow_save _ _ _ _).below (by omega))⟩
                  clear hU hV hR hB hcomp
                  go_wp2_with (first | (refine wpList_load_row rfl 128 (.tmp 4) rfl w.heap.size rfl 128 cm.cells.toArray (0, 0) _ hV8.out Tryz.underlying128 rfl info_s8 ?_) | (refine wpList_store_row rfl 128 (.tmp 8) (.tmp 198) rfl (w.heap.size + 1) cm.cells.toArray rfl rfl 128 (S8.mk 0 0 0 0 0 0 0 0).cells.toArray hRR.out info_s8 rfl (cells_one cm) ?_))
                  refine bodyPost_ret (v := .agg cm.cells.toArray) (results_cell_row (p := 8) rfl _ _ (w.heap.size + 1) 128 cm.cells.toArray (0, 0) _ rfl hEnd.out Tryz.underlying128 rfl info_s8) rfl ⟨rfl, hBe.out⟩
end Go.Proofs.YtiblkfkeifnpaaaGreatDoor

namespace Go.Proofs.YtiblkfkeifnpaaaGreatDoor
open Go.RowKit

/-- A number's last i bytes' first ones: a number of n bytes, as it is laid byte by byte. -/
def beN (x : Nat) : Nat → List UInt8
  | 0 => []
  | i + 1 => UInt8.ofNat (x / 2 ^ (8 * i) % 256) :: beN x i
theorem beN_length (x : Nat) : ∀ n, (beN x n).length = n
  | 0 => rfl
  | n + 1 => by simp [beN, beN_length x n]

/-- Blocks of another kind than bytes stay as they were. -/
structure Keep8 (w w' : World) : Prop where
  out : ∀ b cs t, t ≠ 5 → Blk w b cs t → Blk w' b cs t
theorem Keep8.refl (w : World) : Keep8 w w := ⟨fun _ _ _ _ h => h⟩
theorem Keep8.trans {a b c : World} (h : Keep8 a b) (k : Keep8 b c) : Keep8 a c := ⟨fun x cs t ht hb => k.out x cs t ht (h.out x cs t ht hb)⟩
theorem Keep8.alloc {a w : World} (h : Keep8 a w) (o : Obj) : Keep8 a (w.alloc o) := ⟨fun x cs t ht hb => (h.out x cs t ht hb).alloc o⟩
/-- Append of some bytes, lying in a row of their own, to a row of bytes that the call owns; other blocks stay. -/
theorem wpList_push2 {w w0 wk : World} {ops : Array Oper} {rest : List Oper} {o : Oper} {a : Act} {Q : Exit → Act → World → Prop} (hgd : o.guard = none) (s x : Operand)
    (ho : o.op = .call { callee := .builtin .append, args := #[s, x], argTypes := #[52, 52] }) (base : Nat) (v : Value) (l : List UInt8) (hs : a.eval s = v)
    (hO : Box (w.ownsRow base 5 1 v l.length (l.map yc))) (g : Nat) (news : List UInt8) (hx : a.eval x = .slice (some ⟨g, 0, none⟩) news.length news.length)
    (hn : ∀ j, j < news.length → w.cell? ⟨g, j, none⟩ = (news.map yc)[j]?) (hlen : l.length + news.length ≤ 140737488355328) (hbase : base ≤ w.heap.size) (hB : Box (Below base w0 w)) (hK : Keep8 wk w)
    (h : ∀ v' w', Box (w'.ownsRow base 5 1 v' (l ++ news).length ((l ++ news).map yc)) → Box (Below base w0 w') → Keep8 wk w' → (∃ b n c, v' = .slice b n c ∧ n = (l ++ news).length) → wpList Tryz.prog ops Q rest (a.put o.dst v') w') : wpList Tryz.prog ops Q (o :: rest) a w := by
  obtain ⟨i0, hi, hz0, hz1, hz2⟩ := info_parts info5
  refine wpList_append_own _ hgd s x 52 ho base 5 i0 (.int .u8 0) 1 1 Tryz.underlying52 hi hz0 hz1 hz2 rfl (by decide) v l.length _ hs hO.out ⟨g, 0, none⟩ news.length news.length (news.map yc) hx (by simp)
    (fun j u hj => ?_) (fun u hu => ?_) (by unfold maxLen; omega) (by omega) hbase ?_
  · have hadd : (⟨g, 0, none⟩ : Addr).add j = ⟨g, j, none⟩ := by unfold Addr.add; split <;> simp_all
    have hjl : j < news.length := by
      rcases Nat.lt_or_ge j news.length with h | h
      · exact h
      · rw [List.getElem?_eq_none (by simpa using h)] at hj; cases hj
    rw [hadd, hn j hjl]; exact hj
  · simp only [List.mem_map] at hu; obtain ⟨y, _, rfl⟩ := hu; rfl
  · intro v' w' h2 h3 _
    refine h v' w' ⟨?_⟩ ⟨hB.out.grown h3 hbase (fun k hk => (hO.out.lt k hk).1)⟩ ⟨fun b cs t ht hb => ?_⟩ ?_
    · rw [List.length_append, List.map_append]; exact h2
    · have hb1 := hK.out b cs t ht hb
      refine (h3.block b hb1.lt ?_).trans hb1
      intro e
      obtain ⟨_, ⟨rfl, _⟩ | ⟨g2, cap, cur, rfl, _, hh, _⟩⟩ := hO.out
      · cases e
      · have : b = g2 := by simpa [Value.ownBlock] using e
        subst this
        unfold Blk at hb1
        rw [hh] at hb1
        simp at hb1
        exact ht hb1.2.symm
    · obtain ⟨_, ⟨rfl, h0⟩ | ⟨g2, cap, cur, rfl, _⟩⟩ := h2
      · exact ⟨_, _, _, rfl, by rw [List.length_append]; exact h0.symm⟩
      · exact ⟨_, _, _, rfl, by rw [List.length_append]⟩

set_option maxHeartbeats 800000 in
set_option maxRecDepth 100000 in
theorem number_any (B : Nat) (w0 w : World) (v : Value) (l : List UInt8) (x : Nat) (n : Nat) (hn : n ≤ 8)
    (hO : Box (w.ownsRow B 5 1 v l.length (l.map yc))) (hB : Box (Below B w0 w)) (hBs : B ≤ w0.heap.size) (hlen : l.length ≤ 140737488355000) :
    Calls Tryz.prog 103 #[v, .int .u64 (x : Int), .int .i64 (n : Int)] w
      fun e w' => ∃ v', e = .returned v' ∧ Box (w'.ownsRow B 5 1 v' (l ++ beN x n).length ((l ++ beN x n).map yc)) ∧ Box (Below B w0 w') ∧ Keep8 w w' ∧ (∃ b n c, v' = .slice b n c) := by
  go_enter Tryz.func103, Tryz.ntmps103
  go_wp2_with fail
  go_loopw [0, 7] (fun s0 q wr => ∃ (i : Nat) (p : List UInt8), i ≤ n ∧ q = .int .i64 ((i : Int) - 1) ∧ Box (p ++ beN x i = l ++ beN x n) ∧ Box (p.length + i = l.length + n) ∧ Box (wr.ownsRow B 5 1 s0 p.length (p.map yc)) ∧ Box (Below B w0 wr) ∧ Keep8 w wr) (fun _ q _ => (intOf q + 1).toNat)
  case atStart => exact ⟨n, l, Nat.le_refl _, rfl, ⟨rfl⟩, ⟨rfl⟩, hO, hB, Keep8.refl w⟩
  case round =>
    clear hO hB
    obtain ⟨i, p, hi, rfl, hp, hpl, hO, hB, hKp⟩ := hrel
    have hSz : B ≤ wr.heap.size := Nat.le_trans hBs hB.out.size
    by_cases h0 : 0 < i
    · obtain ⟨j, rfl⟩ : ∃ j, i = j + 1 := ⟨i - 1, by omega⟩
      obtain ⟨d, hd⟩ : ∃ d, UInt8.ofNat (x / 2 ^ (8 * j) % 256) = d := ⟨_, rfl⟩
      have hcv : (x : Int) / 2 ^ (8 * j) % 256 = (d.toNat : Int) := by
        rw [← hd, UInt8.toNat_ofNat']
        have h1 : x / 2 ^ (8 * j) % 256 % 2 ^ 8 = x / 2 ^ (8 * j) % 256 := Nat.mod_eq_of_lt (by omega)
        rw [h1]; simp
      replace hd := Box.mk hd
      have hB2 : Box (Below B w0 (wr.alloc (.cells #[Value.int .u8 (d.toNat : Int)] 5))) := ⟨hB.out.alloc (by omega) _⟩
      have hsz : Box (B ≤ (wr.alloc (.cells #[Value.int .u8 (d.toNat : Int)] 5)).heap.size) := ⟨by simp; omega⟩
      have hO2 : Box ((wr.alloc (.cells #[Value.int .u8 (d.toNat : Int)] 5)).ownsRow B 5 1 u0 p.length (p.map yc)) := ⟨hO.out.alloc _⟩
      have hnw := Box.mk (byte_new wr d)
      have hcap : Box (p.length + [d].length ≤ 140737488355328) := ⟨by have := hpl.out; simp only [List.length_cons, List.length_nil]; omega⟩
      go_wp2_with (refine wpList_push2 rfl (.tmp 14) (.tmp 20) rfl B _ p rfl hO2 wr.heap.size [d] rfl hnw.out hcap.out hsz.out hB2 (hKp.alloc _) ?_; intro v2 w2 hO3 hB3 hK3 _)
      have hm : (intOf (Value.int IntKind.i64 ((j : Int) - 1)) + 1).toNat < (intOf (Value.int IntKind.i64 (((j + 1 : Nat) : Int) - 1)) + 1).toNat := by simp [intOf]
      refine ⟨⟨j, p ++ [d], by omega, rfl, ⟨?_⟩, ⟨?_⟩, hO3, hB3, hK3⟩, hm⟩
      · rw [← hp.out, beN, hd.out, List.append_assoc]; rfl
      · have := hpl.out; rw [List.length_append]; simp only [List.length_cons, List.length_nil]; omega
    · obtain rfl : i = 0 := by omega
      have hp' := hp.out
      rw [beN, List.append_nil] at hp'
      rw [hp'] at hO
      go_wp2_with fail
      go_ret
      refine ⟨_, rfl, hO, hB, hKp, ?_⟩
      obtain ⟨_, ⟨rfl, _⟩ | ⟨g2, cap, cur, rfl, _⟩⟩ := hO.out
      · exact ⟨_, _, _, rfl⟩
      · exact ⟨_, _, _, rfl⟩

def kWords : Array Value := #[Value.int IntKind.u32 1116352408, Value.int IntKind.u32 1899447441, Value.int IntKind.u32 3049323471, Value.int IntKind.u32 3921009573, Value.int IntKind.u32 961987163, Value.int IntKind.u32 1508970993, Value.int IntKind.u32 2453635748, Value.int IntKind.u32 2870763221, Value.int IntKind.u32 3624381080, Value.int IntKind.u32 310598401, Value.int IntKind.u32 607225278, Value.int IntKind.u32 1426881987, Value.int IntKind.u32 1925078388, Value.int IntKind.u32 2162078206, Value.int IntKind.u32 2614888103, Value.int IntKind.u32 3248222580, Value.int IntKind.u32 3835390401, Value.int IntKind.u32 4022224774, Value.int IntKind.u32 264347078, Value.int IntKind.u32 604807628, Value.int IntKind.u32 770255983, Value.int IntKind.u32 1249150122, Value.int IntKind.u32 1555081692, Value.int IntKind.u32 1996064986, Value.int IntKind.u32 2554220882, Value.int IntKind.u32 2821834349, Value.int IntKind.u32 2952996808, Value.int IntKind.u32 3210313671, Value.int IntKind.u32 3336571891, Value.int IntKind.u32 3584528711, Value.int IntKind.u32 113926993, Value.int IntKind.u32 338241895, Value.int IntKind.u32 666307205, Value.int IntKind.u32 773529912, Value.int IntKind.u32 1294757372, Value.int IntKind.u32 1396182291, Value.int IntKind.u32 1695183700, Value.int IntKind.u32 1986661051, Value.int IntKind.u32 2177026350, Value.int IntKind.u32 2456956037, Value.int IntKind.u32 2730485921, Value.int IntKind.u32 2820302411, Value.int IntKind.u32 3259730800, Value.int IntKind.u32 3345764771, Value.int IntKind.u32 3516065817, Value.int IntKind.u32 3600352804, Value.int IntKind.u32 4094571909, Value.int IntKind.u32 275423344, Value.int IntKind.u32 430227734, Value.int IntKind.u32 506948616, Value.int IntKind.u32 659060556, Value.int IntKind.u32 883997877, Value.int IntKind.u32 958139571, Value.int IntKind.u32 1322822218, Value.int IntKind.u32 1537002063, Value.int IntKind.u32 1747873779, Value.int IntKind.u32 1955562222, Value.int IntKind.u32 2024104815, Value.int IntKind.u32 2227730452, Value.int IntKind.u32 2361852424, Value.int IntKind.u32 2428436474, Value.int IntKind.u32 2756734187, Value.int IntKind.u32 3204031479, Value.int IntKind.u32 3329325298]
theorem kWords_eq : kWords = (k64.map fun x => Value.int .u32 (U x)).toArray := by kernel_rfl
theorem info_k : (Tryz.prog.info? 133).map (·.size) = some 64 := by kernel_rfl
theorem kWords_one : kWords.all (·.oneCell') = true := by rw [kWords_eq, List.all_toArray, List.all_eq_true]; exact words_one _
theorem zeros64_blk (w : World) : Blk (w.alloc (.cells zeros64 133)) w.heap.size (wcells 64 []) 133 := by
  have := Blk.new w (wcells 64 []) 133
  rw [zeros64_eq] at this; exact this

theorem wpList_build_to {P : Program} {w : World} {ops : Array Oper} {rest : List Oper} {o : Oper} {a : Act} {Q : Exit → Act → World → Prop} (hg : o.guard = none) (t : TypeId) (parts : Array (Nat × Operand)) (ho : o.op = .build t parts) (vs : Array Value)
    (hv : P.built t (parts.map fun (i, x) => (i, a.eval x)).toList = some vs) (h : wpList P ops Q rest (a.put o.dst (.agg vs)) w) : wpList P ops Q (o :: rest) a w := by
  refine wpList_build hg t parts ho (by rw [hv]; rfl) ?_
  rw [hv]; exact h

set_option maxHeartbeats 800000 in
set_option maxRecDepth 100000 in
theorem words_any (w : World) :
    Calls Tryz.prog 104 #[] w fun e w' => e = .returned (.agg kWords) ∧ Below w.heap.size w w' := by
  have hU : Box ((w.alloc (.cells zeros64 133)).heap[w.heap.size]? = some (.cells zeros64 133 (0, 0))) := ⟨heap_alloc_new w _⟩
  have hB : Box (Below w.heap.size w ((w.alloc (.cells zeros64 133)).setRow w.heap.size kWords)) := ⟨((Below.refl w.heap.size w).alloc (Nat.le_refl _) _).trans ((setRow_save _ _ _ _).below (Nat.le_refl _))⟩
  have hE : Box (((w.alloc (.cells zeros64 133)).setRow w.heap.size kWords).heap[w.heap.size]? = some (.cells kWords 133 (0, 0))) := ⟨by
    have := setRow_blk (zeros64_blk w) kWords.toList
    simpa [Blk] using this⟩
  go_enter Tryz.func104, Tryz.ntmps104
  go_wp2_with (first | (refine wpList_build_to rfl 133 _ rfl kWords (by kernel_rfl) ?_) | (refine wpList_store_row rfl 133 (.tmp 0) (.tmp 1) rfl w.heap.size kWords rfl rfl 133 zeros64 hU.out info_k rfl kWords_one ?_))
  refine bodyPost_ret (v := .agg kWords) (results_cell_row (p := 0) rfl _ _ w.heap.size 133 kWords (0, 0) _ rfl hE.out Tryz.underlying133 rfl info_k) rfl ⟨rfl, hB.out⟩
end Go.Proofs.YtiblkfkeifnpaaaGreatDoor

namespace Go.Proofs.YtiblkfkeifnpaaaGreatDoor
open Go.RowKit

def firstLit : Array Value := #[Value.int IntKind.u32 1779033703, Value.int IntKind.u32 3144134277, Value.int IntKind.u32 1013904242, Value.int IntKind.u32 2773480762, Value.int IntKind.u32 1359893119, Value.int IntKind.u32 2600822924, Value.int IntKind.u32 528734635, Value.int IntKind.u32 1541459225]
theorem firstLit_eq : firstLit = first.cells.toArray := by kernel_rfl
def lenOf : Value → Nat | .slice _ n _ => n | _ => 0
def fill (l : List UInt8) (j : Nat) : List UInt8 := l ++ 128 :: List.replicate j 0
theorem fill_length (l : List UInt8) (j : Nat) : (fill l j).length = l.length + 1 + j := by simp [fill]; omega
theorem fill_step (l : List UInt8) (j : Nat) : fill l j ++ [0] = fill l (j + 1) := by
  simp [fill, List.replicate_succ']
theorem be4_nat (x : BitVec 32) : be4 x = [UInt8.ofNat (x.toNat / 16777216 % 256), UInt8.ofNat (x.toNat / 65536 % 256), UInt8.ofNat (x.toNat / 256 % 256), UInt8.ofNat (x.toNat % 256)] := by
  have h : ∀ n : Nat, ((U (x >>> n) % 256).toNat) = x.toNat / 2 ^ n % 256 := fun n => by
    rw [U, BitVec.toNat_ushiftRight, Nat.shiftRight_eq_div_pow]; omega
  have h0 : (U x % 256).toNat = x.toNat % 256 := by rw [U]; omega
  simp only [be4, bytes4, List.map_cons, List.map_nil, h, h0]
theorem beN_four (X : Nat) (h : X < 4294967296) : beN X 4 = be4 (BitVec.ofNat 32 X) := by
  rw [be4_nat, BitVec.toNat_ofNat, show X % 2 ^ 32 = X by omega]
  simp [beN]
theorem beN_eight (X : Nat) (h : X < 18446744073709551616) : beN X 8 = be4 (BitVec.ofNat 32 (X / 4294967296)) ++ be4 (BitVec.ofNat 32 X) := by
  rw [be4_nat, be4_nat, BitVec.toNat_ofNat, BitVec.toNat_ofNat]
  have e1 : X / 4294967296 % 2 ^ 32 = X / 4294967296 := by omega
  rw [e1]
  simp only [beN, List.cons_append, List.nil_append, List.cons.injEq, and_true]
  refine ⟨?_, ?_, ?_, ?_, ?_, ?_, ?_, ?_⟩
  all_goals (congr 1; simp only [show (2 : Nat) ^ (8 * 7) = 72057594037927936 by decide, show (2 : Nat) ^ (8 * 6) = 281474976710656 by decide, show (2 : Nat) ^ (8 * 5) = 1099511627776 by decide, show (2 : Nat) ^ (8 * 4) = 4294967296 by decide, show (2 : Nat) ^ (8 * 3) = 16777216 by decide, show (2 : Nat) ^ (8 * 2) = 65536 by decide, show (2 : Nat) ^ (8 * 1) = 256 by decide, show (2 : Nat) ^ (8 * 0) = 1 by decide] <;> omega)
theorem fill_pad (l : List UInt8) (z : Nat) (hz : (119 - l.length % 64) % 64 = z) (hl : l.length ≤ 140737488354800) : fill l z ++ beN (l.length * 8) 8 = padded l := by
  rw [beN_eight _ (by omega), padded, hz, fill]
  simp [List.append_assoc]
/-- A row of bytes that the call owns, laid open: its cells. -/
theorem own_cells {w : World} {B : Nat} {v : Value} {l : List UInt8} (h : w.ownsRow B 5 1 v l.length (l.map yc)) (h0 : 0 < l.length) :
    ∃ g cap, v = .slice (some ⟨g, 0, none⟩) l.length cap ∧ B ≤ g ∧ ∀ i, i < l.length → w.cell? ⟨g, i, none⟩ = some (.int .u8 (Y (l.getD i 0))) := by
  obtain ⟨_, ⟨_, h1⟩ | ⟨g, cap, cur, hv, hg, hh, _, _, hsz, hcur⟩⟩ := h
  · omega
  · refine ⟨g, cap, hv, hg, fun i hi => ?_⟩
    have h1 : (cur.toList.take (l.length * 1))[i]? = (l.map yc)[i]? := by rw [hcur]
    rw [List.getElem?_take_of_lt (by omega), List.getElem?_map] at h1
    rw [cell_of_row w g i cur _ _ hh, ← Array.getElem?_toList, h1]
    simp [hi, yc, List.getD]

theorem flat4 (st : S8) (i : Nat) (hi : i ≤ 8) : ((st.list.take i).flatMap be4).length = 4 * i := by
  obtain rfl | rfl | rfl | rfl | rfl | rfl | rfl | rfl | rfl : i = 0 ∨ i = 1 ∨ i = 2 ∨ i = 3 ∨ i = 4 ∨ i = 5 ∨ i = 6 ∨ i = 7 ∨ i = 8 := by omega
  all_goals rfl
set_option maxHeartbeats 2000000 in
set_option maxRecDepth 100000 in
theorem rhash_any (B : Nat) (w0 w : World) (v : Value) (l : List UInt8) (hO : Box (w.ownsRow B 5 1 v l.length (l.map yc))) (hB : Box (Below B w0 w)) (hBs : B ≤ w0.heap.size) (hlen : l.length ≤ 140737488354800) :
    Calls Tryz.prog 57 #[v] w fun e w' => e = .returned (.string (hashOf l)) ∧ Box (Below B w0 w') := by
  obtain ⟨N, hN⟩ : ∃ N, l.length = N := ⟨_, rfl⟩
  obtain ⟨z, hz⟩ : ∃ z, (119 - N % 64) % 64 = z := ⟨_, rfl⟩
  have hvs : ∃ b c, v = .slice b N c := by
    obtain ⟨_, ⟨rfl, h0⟩ | ⟨g2, cap, cur, rfl, _⟩⟩ := hO.out
    · exact ⟨_, _, by rw [← hN, h0]⟩
    · exact ⟨_, _, by rw [hN]⟩
  obtain ⟨bb, bc, rfl⟩ := hvs
  have hBw := hB
  have hsz0 : Box (B ≤ (w.alloc (.cells firstLit 128)).heap.size) := ⟨by have := hB.out.size; simp; omega⟩
  have hO1 : Box (((w.alloc (.cells firstLit 128)).alloc (.cells #[Value.int .u8 128] 5)).ownsRow B 5 1 (.slice bb N bc) l.length (l.map yc)) := ⟨(hO.out.alloc _).alloc _⟩
  have hB1 : Box (Below B w0 ((w.alloc (.cells firstLit 128)).alloc (.cells #[Value.int .u8 128] 5))) := ⟨(hB.out.alloc (by have := hB.out.size; omega) _).alloc hsz0.out _⟩
  have hsz1 : Box (B ≤ ((w.alloc (.cells firstLit 128)).alloc (.cells #[Value.int .u8 128] 5)).heap.size) := ⟨by have := hB.out.size; simp; omega⟩
  have hV : Blk (w.alloc (.cells firstLit 128)) w.heap.size first.cells 128 := by rw [firstLit_eq]; exact Blk.new w _ _
  have hnw : Box (∀ j, j < [(128 : UInt8)].length → ((w.alloc (.cells firstLit 128)).alloc (.cells #[Value.int .u8 128] 5)).cell? ⟨w.heap.size + 1, j, none⟩ = ([(128 : UInt8)].map yc)[j]?) := ⟨by
    have := byte_new (w.alloc (.cells firstLit 128)) 128
    rwa [show (w.alloc (.cells firstLit 128)).heap.size = w.heap.size + 1 by simp] at this⟩
  have hcap : Box (l.length + [(128 : UInt8)].length ≤ 140737488355328) := ⟨by simp only [List.length_cons, List.length_nil]; omega⟩
  replace hV := Box.mk hV
  have hNb : N ≤ 140737488354800 := by omega
  have hpad := Box.mk (fill_pad l z (by rw [hN]; exact hz) hlen)
  rw [hN] at hpad
  replace hN := Box.mk hN
  replace hz := Box.mk hz
  go_enter Tryz.func57, Tryz.ntmps57
  go_wp2_with (refine wpList_push2 (wk := w.alloc (.cells firstLit 128)) rfl (.tmp 12) (.tmp 13) rfl B _ l rfl hO1 (w.heap.size + 1) [128] rfl hnw.out hcap.out hsz1.out hB1 ((Keep8.refl _).alloc _) ?_; intro v2 w2 hO2 hB2 hK2 hv2)
  go_loopw [0] (fun s0 wr => ∃ (j n : Nat) (b : Option Addr) (c : Nat), j ≤ z ∧ s0 = .slice b n c ∧ Box (n = N + 1 + j) ∧ Box (wr.ownsRow B 5 1 s0 (fill l j).length ((fill l j).map yc)) ∧ Box (Below B w0 wr) ∧ Keep8 (w.alloc (.cells firstLit 128)) wr) (fun s0 _ => N + 1 + z - lenOf s0)
  case atStart =>
    obtain ⟨b, n, c, rfl, hn⟩ := hv2
    refine ⟨0, n, b, c, Nat.zero_le _, rfl, ⟨?_⟩, hO2, hB2, hK2⟩
    have := hN.out
    simp only [List.length_append, List.length_cons, List.length_nil] at hn; omega
  case round =>
    clear hO2 hB2 hK2 hv2
    obtain ⟨j, n, b, c, hj, rfl, hn, hO, hB, hKp⟩ := hrel
    have hbs : B ≤ wr.heap.size := Nat.le_trans hBs hB.out.size
    by_cases hjz : j < z
    · have ht : ((n : Int) % 64 == 56) = false := by
        have h1 := hn.out; have h2 := hz.out
        simp; omega
      have hB3 : Box (Below B w0 (wr.alloc (.cells #[Value.int .u8 0] 5))) := ⟨hB.out.alloc hbs _⟩
      have hsz : Box (B ≤ (wr.alloc (.cells #[Value.int .u8 0] 5)).heap.size) := ⟨by simp; omega⟩
      have hO3 : Box ((wr.alloc (.cells #[Value.int .u8 0] 5)).ownsRow B 5 1 (.slice b n c) (fill l j).length ((fill l j).map yc)) := ⟨hO.out.alloc _⟩
      have hnw2 : Box (∀ i, i < [(0 : UInt8)].length → (wr.alloc (.cells #[Value.int .u8 0] 5)).cell? ⟨wr.heap.size, i, none⟩ = ([(0 : UInt8)].map yc)[i]?) := ⟨byte_new wr 0⟩
      have hcap2 : Box ((fill l j).length + [(0 : UInt8)].length ≤ 140737488355328) := ⟨by
        have h1 := hN.out; have h2 := hz.out
        rw [fill_length]; simp only [List.length_cons, List.length_nil]; omega⟩
      go_wp2_with (refine wpList_push2 rfl (.tmp 19) (.tmp 20) rfl B _ (fill l j) rfl hO3 wr.heap.size [0] rfl hnw2.out hcap2.out hsz.out hB3 (hKp.alloc _) ?_; intro v3 w3 hO4 hB4 hK4 hv4)
      obtain ⟨b3, n3, c3, rfl, hn3⟩ := hv4
      rw [fill_step, fill_length] at hn3
      rw [fill_step] at hO4
      have hm : N + 1 + z - lenOf (Value.slice b3 n3 c3) < N + 1 + z - lenOf (Value.slice b n c) := by
        have h1 := hN.out; have h2 := hn.out
        simp only [lenOf]; omega
      exact ⟨⟨j + 1, n3, b3, c3, by omega, rfl, ⟨by have := hN.out; omega⟩, hO4, hB4, hK4⟩, hm⟩
    · obtain rfl : j = z := by omega
      have ht : ((n : Int) % 64 == 56) = true := by
        have h1 := hn.out; have h2 := hz.out
        simp; omega
      have hlen2 : (fill l j).length ≤ 140737488355000 := by
        have h1 := hN.out; have h2 := hz.out
        rw [fill_length]; omega
      have hnum := number_any B w0 wr (.slice b n c) (fill l j) (N * 8) 8 (by omega) hO hB hBs hlen2
      rw [hpad.out, show ((N * 8 : Nat) : Int) = (N : Int) * 8 by omega] at hnum
      clear hO hjz
      go_wp2_with fail
      refine hnum.mono ?_
      clear hnum
      rintro e w4 ⟨v4, rfl, hO4, hB4, hK4, hv4⟩
      replace hKp := hKp.trans hK4
      clear hK4 hB
      go_wp2_with fail
      refine (words_any w4).mono ?_
      rintro e w5 ⟨rfl, hb5⟩
      have hB5 : Box (Below B w0 w5) := ⟨hB4.out.trans (hb5.mono (Nat.le_trans hBs hB4.out.size))⟩
      have hV5 : Box (Blk w5 w.heap.size first.cells 128) := ⟨(hKp.out _ _ _ (by decide) hV.out).below hb5 (hKp.out _ _ _ (by decide) hV.out).lt⟩
      have hbs5 : B ≤ w5.heap.size := Nat.le_trans hBs hB5.out.size
      have hO5 : Box (w5.ownsRow B 5 1 v4 (padded l).length ((padded l).map yc)) := ⟨by
        obtain ⟨h1, h2⟩ := hO4.out
        refine ⟨h1, ?_⟩
        rcases h2 with h2 | ⟨g, cap, cur, hv, hg, hh, r⟩
        · exact Or.inl h2
        · refine Or.inr ⟨g, cap, cur, hv, hg, ?_, r⟩
          have hlt : g < w4.heap.size := by
            rcases Nat.lt_or_ge g w4.heap.size with h | h
            · exact h
            · rw [Array.getElem?_eq_none h] at hh; cases hh
          rw [hb5.block g hlt]; exact hh⟩
      clear hO4 hB4 hb5 hKp hv4
      have hU5 : Box ((w5.alloc (.cells zeros64 133)).heap[w5.heap.size]? = some (.cells zeros64 133 (0, 0))) := ⟨heap_alloc_new w5 _⟩
      have hP : Box (0 < (padded l).length ∧ (padded l).length % 64 = 0) := ⟨by
        have h1 := hpad.out; have h2 := hz.out; have h3 := hN.out
        rw [← h1, List.length_append, fill_length, beN_length]; omega⟩
      obtain ⟨g, cap, hv4, hgB, hcells⟩ := own_cells hO5.out hP.out.1
      subst hv4
      have hgv : g ≠ w.heap.size := by
        intro e
        have h1 := hcells 0 hP.out.1
        rw [e, hV5.out.cell 0] at h1
        simp [S8.cells, S8.list] at h1
      have hg5 : g < w5.heap.size := block_lt_of_cell (hcells 0 hP.out.1)
      have hA6 : Below w5.heap.size w5 ((w5.alloc (.cells zeros64 133)).setRow w5.heap.size kWords) := ((Below.refl _ _).alloc (Nat.le_refl _) _).trans ((setRow_save _ _ _ _).below (Nat.le_refl _))
      have hKb : Box (Blk ((w5.alloc (.cells zeros64 133)).setRow w5.heap.size kWords) w5.heap.size (k64.map fun x => Value.int .u32 (U x)) 133) := ⟨by
        have := setRow_blk (zeros64_blk w5) (k64.map fun x => Value.int .u32 (U x))
        rwa [← kWords_eq] at this⟩
      have hV6 : Box (Blk ((w5.alloc (.cells zeros64 133)).setRow w5.heap.size kWords) w.heap.size (stateAt (padded l) 0).cells 128) := ⟨hV5.out.below hA6 hV5.out.lt⟩
      have hC6 : Box (∀ i, i < (padded l).length → ((w5.alloc (.cells zeros64 133)).setRow w5.heap.size kWords).cell? ⟨g, i, none⟩ = some (.int .u8 (Y ((padded l).getD i 0)))) := ⟨fun i hi => by
        rw [hA6.cell (p := ⟨g, i, none⟩) hg5]; exact hcells i hi⟩
      have hB6 : Box (Below B w0 ((w5.alloc (.cells zeros64 133)).setRow w5.heap.size kWords)) := ⟨hB5.out.trans (hA6.mono hbs5)⟩
      have hvb : w.heap.size < w5.heap.size := hV5.out.lt
      have hvB : B ≤ w.heap.size := Nat.le_trans hBs hBw.out.size
      have hpl : (padded l).length ≤ 140737488355000 := by
        have h1 := hpad.out; have h2 := hz.out; have h3 := hN.out
        rw [← h1, List.length_append, fill_length, beN_length]; omega
      obtain ⟨L, hL⟩ : ∃ L, (padded l).length = L := ⟨_, rfl⟩
      rw [hL] at hC6 hP hpl
      replace hcells := Box.mk hcells
      replace hA6 := Box.mk hA6
      clear hV5 hO5
      rw [hL]
      go_wp2_with (refine wpList_store_row rfl 133 (.tmp 5) (.tmp 27) rfl w5.heap.size kWords rfl rfl 133 zeros64 hU5.out info_k rfl kWords_one ?_)
      go_loopw [6] (fun q wr => ∃ i : Nat, 64 * i ≤ L ∧ q = .int .i64 (64 * (i : Int)) ∧ Box (Blk wr w5.heap.size (k64.map fun x => Value.int .u32 (U x)) 133) ∧ Box (Blk wr w.heap.size (stateAt (padded l) i).cells 128) ∧
        Box (∀ i, i < L → wr.cell? ⟨g, i, none⟩ = some (.int .u8 (Y ((padded l).getD i 0)))) ∧ Box (Below B w0 wr)) (fun q _ => L - (intOf q).toNat)
      case atStart => exact ⟨0, by omega, u_eq (by omega), hKb, hV6, hC6, hB6⟩
      case round =>
        clear hKb hV6 hC6 hB6
        obtain ⟨i, hi, rfl, hKb, hVr, hCr, hBr⟩ := hrel
        by_cases hlt : 64 * i < L
        · have hmod := hP.out.2
          have hblk := block_any (stateAt (padded l) i) (blockAt (padded l) i) w5.heap.size g (64 * i) L cap wr (by omega) (by omega)
            (fun j hj => by
              have hl64 : j < k64.length := hj
              rw [hKb.out.cell, List.getElem?_map]; simp [List.getD, hl64])
            (fun j hj => by
              rw [hCr.out (64 * i + j) (by omega), blockAt]
              have h1 : ((padded l).drop (64 * i)).take 64 = ((padded l).drop (64 * i)).take 64 := rfl
              simp [List.getD, List.getElem?_take_of_lt hj, List.getElem?_drop])
          have hst : stateAt (padded l) (i + 1) = comp (blockAt (padded l) i) (stateAt (padded l) i) := rfl
          rw [← hst] at hblk
          obtain ⟨s1, hs1⟩ : ∃ s1, stateAt (padded l) i = s1 := ⟨_, rfl⟩
          obtain ⟨s2, hs2⟩ : ∃ s2, stateAt (padded l) (i + 1) = s2 := ⟨_, rfl⟩
          rw [hs1, hs2, show ((64 * i : Nat) : Int) = 64 * (i : Int) by omega] at hblk
          rw [hs1] at hVr
          replace hs2 := Box.mk hs2
          clear hst hs1
          go_wp2_with (refine wpList_load_row rfl 128 (.tmp 3) rfl w.heap.size rfl 128 s1.cells.toArray (0, 0) _ hVr.out Tryz.underlying128 rfl info_s8 ?_)
          refine hblk.mono ?_
          rintro e w8 ⟨rfl, hb8⟩
          clear hblk
          have hV8 : Box (w8.heap[w.heap.size]? = some (.cells s1.cells.toArray 128 (0, 0))) := ⟨hVr.out.below hb8 hVr.out.lt⟩
          have hV9 : Box (Blk (w8.setRow w.heap.size s2.cells.toArray) w.heap.size (stateAt (padded l) (i + 1)).cells 128) := ⟨by
            rw [hs2.out]; exact setRow_blk (hVr.out.below hb8 hVr.out.lt) _⟩
          have hK9 : Box (Blk (w8.setRow w.heap.size s2.cells.toArray) w5.heap.size (k64.map fun x => Value.int .u32 (U x)) 133) := ⟨(hKb.out.below hb8 hKb.out.lt).setRow_other (by omega) _⟩
          have hS9 := setRow_save w8 w8.heap.size w.heap.size s2.cells.toArray
          have hgr : g < wr.heap.size := block_lt_of_cell (hCr.out 0 (by omega))
          have hC9 : Box (∀ i, i < L → (w8.setRow w.heap.size s2.cells.toArray).cell? ⟨g, i, none⟩ = some (.int .u8 (Y ((padded l).getD i 0)))) := ⟨fun j hj => by
            rw [hS9.cell (p := ⟨g, j, none⟩) (Nat.lt_of_lt_of_le hgr hb8.size) hgv, hb8.cell (p := ⟨g, j, none⟩) hgr]; exact hCr.out j hj⟩
          have hB9 : Box (Below B w0 (w8.setRow w.heap.size s2.cells.toArray)) := ⟨(hBr.out.trans (hb8.mono (Nat.le_trans hBs hBr.out.size))).trans ((setRow_save w8 B w.heap.size s2.cells.toArray).below hvB)⟩
          replace hgr := Box.mk hgr
          replace hS9 := Box.mk hS9
          replace hb8 := Box.mk hb8
          clear hVr hKb hCr hBr
          go_wp2_with (refine wpList_store_row rfl 128 (.tmp 3) (.tmp 37) rfl w.heap.size s2.cells.toArray rfl rfl 128 s1.cells.toArray hV8.out info_s8 rfl (cells_one s2) ?_)
          have hm : L - (intOf (Value.int IntKind.i64 (64 * (i : Int) + 64))).toNat < L - (intOf (Value.int IntKind.i64 (64 * (i : Int)))).toNat := by simp [intOf]; omega
          exact ⟨⟨i + 1, by omega, u_eq (by omega), hK9, hV9, hC9, hB9⟩, hm⟩
        · have hend : L / 64 = i := by omega
          obtain ⟨st, hst⟩ : ∃ st, stateAt (padded l) i = st := ⟨_, rfl⟩
          have hH : Box (hashL l = st.list.flatMap be4) := ⟨by rw [hashL, hL, hend, hst]⟩
          rw [hst] at hVr
          obtain ⟨w9, rfl⟩ : ∃ w9 : World, w9 = wr := ⟨_, rfl⟩
          clear hKb hCr hend
          have hN0 : Box (w9.ownsRow B 5 1 (.slice none 0 0) 0 []) := ⟨World.ownsRow_nil _ _ _ _⟩
          go_wp2_with fail
          go_loopw [7, 8] (fun s7 q wr => ∃ (i : Nat) (o : List UInt8), i ≤ 8 ∧ q = .int .i64 i ∧ Box (o = (st.list.take i).flatMap be4) ∧ Box (wr.ownsRow B 5 1 s7 o.length (o.map yc)) ∧ Box (Blk wr w.heap.size st.cells 128) ∧ Box (Below B w0 wr)) (fun _ q _ => 8 - (intOf q).toNat)
          case atStart => exact ⟨0, [], by omega, rfl, ⟨rfl⟩, hN0, hVr, hBr⟩
          case round =>
            clear hN0 hVr hBr
            obtain ⟨i, o, hi8, rfl, ho, hO, hVr, hBr⟩ := hrel
            by_cases hlt : i < 8
            · have cv := hVr.out.cell i
              rw [cells_get st i hlt] at cv
              obtain ⟨y, hy⟩ : ∃ x, st.list.getD i 0 = x := ⟨_, rfl⟩
              rw [hy] at cv
              have ho2 : Box (o ++ be4 y = (st.list.take (i + 1)).flatMap be4) := ⟨by
                have hl8 : i < st.list.length := hlt
                rw [List.take_succ_eq_append_getElem hl8, List.flatMap_append, ← ho.out, ← hy]
                simp [List.getD, hl8]⟩
              have hol : o.length ≤ 140737488355000 := by
                have := flat4 st i hi8
                rw [← ho.out] at this
                omega
              have hnum := fun v (hO : Box (wr.ownsRow B 5 1 v o.length (o.map yc))) => number_any B w0 wr v o y.toNat 4 (by omega) hO hBr hBs hol
              have hb4 : beN y.toNat 4 = be4 y := by rw [beN_four _ y.isLt]; simp
              rw [hb4] at hnum
              have hyr := U_range y
              have hyw : IntKind.u64.wrap (U y) = U y := IntWalk.u64_in _ (by omega)
              replace hy := Box.mk hy
              go_wp2_with fail
              refine (hnum _ hO).mono ?_
              rintro e w10 ⟨v10, rfl, hO10, hB10, hK10, hv10⟩
              have hV10 : Box (Blk w10 w.heap.size st.cells 128) := ⟨hK10.out _ _ _ (by decide) hVr.out⟩
              clear hnum hO hVr hBr hv10
              go_wp2_with fail
              have hm : 8 - (intOf (Value.int IntKind.i64 (↑i + 1))).toNat < 8 - (intOf (Value.int IntKind.i64 ↑i)).toNat := by simp [intOf]; omega
              exact ⟨⟨i + 1, o ++ be4 y, by omega, by go_num, ho2, hO10, hV10, hB10⟩, hm⟩
            · obtain rfl : i = 8 := by omega
              have h8 := ho.out
              rw [List.take_of_length_le (show st.list.length ≤ 8 from Nat.le_refl 8), ← hH.out] at h8
              rw [h8] at hO
              have hcv := own_text hO.out
              clear hO hVr h8 ho
              go_wp2_with fail
              go_ret
              exact ⟨rfl, hBr⟩
end Go.Proofs.YtiblkfkeifnpaaaGreatDoor

namespace Go.Proofs.YtiblkfkeifnpaaaGreatDoor
open Go.RowKit

/-- Append of a text to a row of bytes that the call owns. -/
theorem wpList_pushS {w w0 : World} {ops : Array Oper} {rest : List Oper} {o : Oper} {a : Act} {Q : Exit → Act → World → Prop} (hgd : o.guard = none) (s x : Operand)
    (ho : o.op = .call { callee := .builtin .append, args := #[s, x], argTypes := #[52, 9] }) (base : Nat) (v : Value) (l : List UInt8) (hs : a.eval s = v)
    (hO : Box (w.ownsRow base 5 1 v l.length (l.map yc))) (str : ByteArray) (hx : a.eval x = .string str)
    (hlen : l.length + str.size ≤ 140737488355328) (hbase : base ≤ w.heap.size) (hB : Box (Below base w0 w))
    (h : ∀ v' w', Box (w'.ownsRow base 5 1 v' (l ++ str.data.toList).length ((l ++ str.data.toList).map yc)) → Box (Below base w0 w') → wpList Tryz.prog ops Q rest (a.put o.dst v') w') : wpList Tryz.prog ops Q (o :: rest) a w := by
  obtain ⟨i0, hi, hz0, hz1, hz2⟩ := info_parts info5
  refine Lib.wpList_append_own_string _ hgd s x 52 9 ho base 5 i0 Tryz.underlying52 Tryz.underlying9 hi hz0 hz1 hz2 v l.length _ hs hO.out str hx (by unfold maxLen; omega) (by omega) hbase ?_
  intro v' w' h2 h3 _
  refine h v' w' ⟨?_⟩ ⟨hB.out.grown h3 hbase (fun k hk => (hO.out.lt k hk).1)⟩
  rw [List.length_append, data_len, List.map_append]; exact h2

set_option maxHeartbeats 800000 in
set_option maxRecDepth 100000 in
theorem rsum_none (a : Option Addr) (cap : Nat) (w : World) :
    Calls Tryz.prog 16 #[.slice a 0 cap] w fun e w' => e = .returned (.string (hashOf [])) ∧ Below w.heap.size w w' := by
  have hH := rhash_any w.heap.size w w (.slice none 0 0) [] ⟨World.ownsRow_nil _ _ _ _⟩ ⟨Below.refl _ _⟩ (Nat.le_refl _) (by simp)
  go_enter Tryz.func16, Tryz.ntmps16
  go_wp2_with fail
  go_loopw [3, 4] (fun s3 q wr => s3 = .slice none 0 0 ∧ q = .int .i64 0 ∧ Box (w = wr)) (fun _ _ _ => 0)
  case atStart => exact ⟨rfl, rfl, ⟨rfl⟩⟩
  case round =>
    obtain ⟨rfl, rfl, hw⟩ := hrel
    rw [hw.out] at hH
    go_wp2_with (go_at_call 57; refine hH.mono ?_; rintro e w' ⟨rfl, hb⟩)
    go_returns
    rw [hw.out]
    exact ⟨rfl, hb.out⟩
set_option maxHeartbeats 800000 in
set_option maxRecDepth 100000 in
theorem rsum_some (blk off cap : Nat) (ps : List ByteArray) (w : World) (hlt : blk < w.heap.size) (hc : ∀ i, i < ps.length → w.cell? ⟨blk, off + i, none⟩ = some (.string (ps.getD i ByteArray.empty)))
    (hsz : (flat ps).length ≤ 140737488354800) (hps : ps.length ≤ 4611686018427387904) :
    Calls Tryz.prog 16 #[.slice (some ⟨blk, off, none⟩) ps.length cap] w fun e w' => e = .returned (.string (hashOf (flat ps))) ∧ Below w.heap.size w w' := by
  have hO0 : Box (w.ownsRow w.heap.size 5 1 (.slice none 0 0) (flat (ps.take 0)).length ((flat (ps.take 0)).map yc)) := ⟨World.ownsRow_nil _ _ _ _⟩
  have hB0 : Box (Below w.heap.size w w) := ⟨Below.refl _ _⟩
  replace hc := Box.mk hc
  go_enter Tryz.func16, Tryz.ntmps16
  go_wp2_with fail
  go_loopw [3, 4] (fun s3 q wr => ∃ i : Nat, i ≤ ps.length ∧ q = .int .i64 i ∧ Box (wr.ownsRow w.heap.size 5 1 s3 (flat (ps.take i)).length ((flat (ps.take i)).map yc)) ∧ Box (Below w.heap.size w wr)) (fun _ q _ => ps.length - (intOf q).toNat)
  case atStart => exact ⟨0, by omega, rfl, hO0, hB0⟩
  case round =>
    clear hO0 hB0
    obtain ⟨i, hi, rfl, hO, hB⟩ := hrel
    by_cases hlt2 : i < ps.length
    · have hcell : wr.cell? ⟨blk, off + i, none⟩ = some (.string (ps.getD i ByteArray.empty)) := by
        rw [hB.out.cell (p := ⟨blk, off + i, none⟩) hlt]; exact hc.out i hlt2
      obtain ⟨s, hs⟩ : ∃ s, ps.getD i ByteArray.empty = s := ⟨_, rfl⟩
      have hstep := flat_step ps i hlt2
      have hpart := flat_part ps i hlt2
      rw [hs] at hcell hstep hpart
      have hcap : Box ((flat (ps.take i)).length + s.size ≤ 140737488355328) := ⟨by omega⟩
      replace hstep := Box.mk hstep
      replace hpart := Box.mk hpart
      clear hs
      go_wp2_with (refine wpList_pushS rfl (.tmp 11) (.tmp 15) rfl w.heap.size _ (flat (ps.take i)) rfl hO s rfl hcap.out hB.out.size hB ?_; intro v2 w2 hO2 hB2)
      rw [hstep.out] at hO2
      have hm : ps.length - (intOf (Value.int IntKind.i64 (↑i + 1))).toNat < ps.length - (intOf (Value.int IntKind.i64 ↑i)).toNat := by simp [intOf]; omega
      exact ⟨⟨i + 1, by omega, by go_num, hO2, hB2⟩, hm⟩
    · obtain rfl : i = ps.length := by omega
      rw [List.take_length] at hO
      have hH := fun v (hO : Box (wr.ownsRow w.heap.size 5 1 v (flat ps).length ((flat ps).map yc))) => rhash_any w.heap.size w wr v (flat ps) hO hB (Nat.le_refl _) hsz
      go_wp2_with fail
      refine (hH _ hO).mono ?_
      rintro e w' ⟨rfl, hb⟩
      clear hH
      go_wp2_with fail
      go_returns
      exact ⟨rfl, hb.out⟩
theorem rsum_parts (v : Value) (ps : List ByteArray) (w : World) (hv : PartsAt w v ps) (hsz : (flat ps).length ≤ 140737488354800) (hps : ps.length ≤ 4611686018427387904) :
    Calls Tryz.prog 16 #[v] w fun e w' => e = .returned (.string (hashOf (flat ps))) ∧ Below w.heap.size w w' := by
  obtain ⟨a, cap, rfl, h⟩ := hv.ex
  by_cases h0 : 0 < ps.length
  · obtain ⟨blk, off, rfl, hlt, hc⟩ := h h0
    exact rsum_some blk off cap ps w hlt hc hsz hps
  · obtain rfl : ps = [] := List.length_eq_zero_iff.1 (by omega)
    exact rsum_none a cap w
end Go.Proofs.YtiblkfkeifnpaaaGreatDoor

namespace Go.Proofs.YtiblkfkeifnpaaaGreatDoor
open Go.RowKit

def tagP (s : ByteArray) : List UInt8 := be4 (BitVec.ofNat 32 s.size) ++ s.data.toList
/-- What a tagged hash is of. -/
def tagL (kind : UInt8) (ps : List ByteArray) : List UInt8 := kind :: ps.flatMap tagP
theorem tag_step (kind : UInt8) (ps : List ByteArray) (i : Nat) (h : i < ps.length) : tagL kind (ps.take i) ++ be4 (BitVec.ofNat 32 (ps.getD i ByteArray.empty).size) ++ (ps.getD i ByteArray.empty).data.toList = tagL kind (ps.take (i + 1)) := by
  rw [List.take_succ_eq_append_getElem h, tagL, tagL, List.flatMap_append]
  simp [List.getD, h, tagP]
theorem tag_part (kind : UInt8) (ps : List ByteArray) (i : Nat) (h : i < ps.length) : (tagL kind (ps.take i)).length + 4 + (ps.getD i ByteArray.empty).size ≤ (tagL kind ps).length := by
  have h1 : (tagL kind (ps.take (i + 1))).length ≤ (tagL kind ps).length := by
    conv => rhs; rw [← List.take_append_drop (i + 1) ps, tagL, List.flatMap_append, List.length_cons, List.length_append]
    rw [tagL, List.length_cons]; omega
  rw [← tag_step kind ps i h, List.length_append, List.length_append, data_len, be4_length] at h1
  exact h1
theorem own_one (w : World) (x : UInt8) : (w.alloc (.cells #[Value.int .u8 (x.toNat : Int)] 5)).ownsRow w.heap.size 5 1 (.slice (some ⟨w.heap.size, 0, none⟩) 1 1) [x].length ([x].map yc) :=
  ⟨rfl, Or.inr ⟨w.heap.size, 1, #[Value.int .u8 (x.toNat : Int)], rfl, Nat.le_refl _, heap_alloc_new w _, Nat.le_refl _, by unfold maxLen; omega, rfl, rfl⟩⟩
end Go.Proofs.YtiblkfkeifnpaaaGreatDoor

namespace Go.Proofs.YtiblkfkeifnpaaaGreatDoor
open Go.RowKit

def one (x : UInt8) : ByteArray := ⟨#[x]⟩
/-- The row of one byte as a text. -/
theorem one_text (w : World) (x : UInt8) : (convert 52 9 (.slice (some ⟨w.heap.size, 0, none⟩) 1 1)).run Tryz.prog (w.alloc (.cells #[Value.int .u8 (x.toNat : Int)] 5)) = .ok (.string (one x)) (w.alloc (.cells #[Value.int .u8 (x.toNat : Int)] 5)) := by
  have := own_text (l := [x]) (own_one w x)
  simpa [one] using this
theorem one_data (x : UInt8) : (one x).data.toList = [x] := rfl
theorem one_size (x : UInt8) : (one x).size = 1 := rfl

end Go.Proofs.YtiblkfkeifnpaaaGreatDoor

namespace Go.Proofs.YtiblkfkeifnpaaaGreatDoor
open Go.RowKit

theorem U_lenB (n : Nat) : (n : Int) % 4294967296 = U (BitVec.ofNat 32 n) := by rw [U, BitVec.toNat_ofNat]; omega

set_option maxHeartbeats 1600000 in
set_option maxRecDepth 100000 in
theorem stagB_any (x : UInt8) (a : Option Addr) (cap : Nat) (ps : List ByteArray) (w : World) (blk off : Nat) (ha : 0 < ps.length → a = some ⟨blk, off, none⟩) (hlt : 0 < ps.length → blk < w.heap.size) (hc : ∀ i, i < ps.length → w.cell? ⟨blk, off + i, none⟩ = some (.string (ps.getD i ByteArray.empty)))
    (hK : KIs w) (hsz : (tagL x ps).length ≤ 1152921504606846976) (hps : ps.length ≤ 16777216) :
    Calls Tryz.prog 178 #[.int .u8 (x.toNat : Int), .slice a ps.length cap] w fun e w' => e = .returned (.string (hashOf (tagL x ps))) ∧ Below w.heap.size w w' := by
  have hW := (Below.refl w.heap.size w).alloc (Nat.le_refl _) (.cells zeros73 131)
  have hW2 := hW.alloc (by simp) (.cells #[Value.int .u8 (x.toNat : Int)] 5)
  have hD : DigIs ((w.alloc (.cells zeros73 131)).alloc (.cells #[Value.int .u8 (x.toNat : Int)] 5)) w.heap.size [] := (DigIs.new w).below ((Below.refl _ _).alloc (Nat.le_refl _) _)
  have hK1 := hK.below hW2 hK.lt
  have hA0 := add_any w.heap.size [] (one x) _ hD hK1 (by rw [one_size]; decide)
  rw [one_data] at hA0
  have hcv := one_text (w.alloc (.cells zeros73 131)) x
  rw [show (w.alloc (.cells zeros73 131)).heap.size = w.heap.size + 1 by simp] at hcv
  replace hW2 := Box.mk hW2
  replace hc := Box.mk hc
  replace ha := Box.mk ha
  replace hlt := Box.mk hlt
  clear hW hD hK1 hK
  have hz := zero_dig
  go_enter Tryz.func178, Tryz.ntmps178
  go_wp2_with fail
  refine hA0.mono ?_
  rintro e w1 ⟨rfl, hD1, hK1, hS1⟩
  have hB1 : Box (Below w.heap.size w w1) := ⟨hW2.out.trans ((hS1.out.mono (by simp; omega)).below (Nat.le_refl _))⟩
  have hD1' : DigIs w1 w.heap.size (tagL x (ps.take 0)) := hD1
  clear hA0 hcv hS1 hW2 hD1
  go_wp2_with fail
  go_loopw [7, 14] (fun _ q wr => ∃ i : Nat, i ≤ ps.length ∧ q = .int .i64 i ∧ DigIs wr w.heap.size (tagL x (ps.take i)) ∧ KIs wr ∧ Box (Below w.heap.size w wr)) (fun _ q _ => ps.length - (intOf q).toNat)
  case atStart => exact ⟨0, by omega, rfl, hD1', hK1, hB1⟩
  case round =>
    clear hD1' hK1 hB1
    obtain ⟨i, hi, rfl, hD, hKr, hB⟩ := hrel
    by_cases hlt2 : i < ps.length
    · have ha' := ha.out (by omega)
      subst ha'
      have hcell : wr.cell? ⟨blk, off + i, none⟩ = some (.string (ps.getD i ByteArray.empty)) := by
        rw [hB.out.cell (p := ⟨blk, off + i, none⟩) (hlt.out (by omega))]; exact hc.out i hlt2
      obtain ⟨s, hs⟩ : ∃ s, ps.getD i ByteArray.empty = s := ⟨_, rfl⟩
      have hstep := tag_step x ps i hlt2
      have hpart := tag_part x ps i hlt2
      rw [hs] at hcell hstep hpart
      have hss : s.size ≤ 1152921504606846976 := by omega
      have hUl := U_lenB s.size
      obtain ⟨u, hu⟩ : ∃ u, BitVec.ofNat 32 s.size = u := ⟨_, rfl⟩
      rw [hu] at hstep hUl
      have hF := four_any u wr
      replace hstep := Box.mk hstep
      replace hpart := Box.mk hpart
      replace hUl := Box.mk hUl
      clear hs
      go_wp2_with fail
      rw [hUl.out]
      refine hF.mono ?_
      clear hF
      rintro e w2 ⟨rfl, hb2⟩
      have hD2 := hD.below hb2
      have hK2 := hKr.below hb2 hKr.lt
      have hA2 := add_any w.heap.size _ (strOfNums (bytes4 u)) w2 hD2 hK2 (by rw [four_size]; have := hpart.out; omega)
      rw [four_data] at hA2
      replace hb2 := Box.mk hb2
      clear hD hKr hD2 hK2
      go_wp2_with fail
      refine hA2.mono ?_
      clear hA2
      rintro e w3 ⟨rfl, hD3, hK3, hS3⟩
      have hA3 := add_any w.heap.size _ s w3 hD3 hK3 (by rw [List.length_append, be4_length]; have := hpart.out; omega)
      rw [hstep.out] at hA3
      clear hD3 hK3
      go_wp2_with fail
      refine hA3.mono ?_
      clear hA3
      rintro e w4 ⟨rfl, hD4, hK4, hS4⟩
      have hB4 : Box (Below w.heap.size w w4) := ⟨by
        have z1 := hB.out.size
        have z2 := hb2.out.size
        have z3 := hS3.out.size
        exact ((hB.out.trans (hb2.out.mono z1)).trans ((hS3.out.mono (by omega)).below (Nat.le_refl _))).trans ((hS4.out.mono (by omega)).below (Nat.le_refl _))⟩
      go_wp2_with fail
      have hm : ps.length - (intOf (Value.int IntKind.i64 (↑i + 1))).toNat < ps.length - (intOf (Value.int IntKind.i64 ↑i)).toNat := by simp [intOf]; omega
      exact ⟨⟨i + 1, by omega, by go_num, hD4, hK4, hB4⟩, hm⟩
    · obtain rfl : i = ps.length := by omega
      rw [List.take_length] at hD
      have hF := sum_some w.heap.size (tagL x ps) wr hD hKr (by omega)
      clear hD hKr
      go_wp2_with (go_at_call 102; refine hF.mono ?_; rintro e w' ⟨rfl, hb⟩)
      go_returns
      exact ⟨rfl, hB.out.trans (hb.mono hB.out.size)⟩
theorem stagB_parts (x : UInt8) (v : Value) (ps : List ByteArray) (w : World) (hv : PartsAt w v ps) (hK : KIs w) (hsz : (tagL x ps).length ≤ 1152921504606846976) (hps : ps.length ≤ 16777216) :
    Calls Tryz.prog 178 #[.int .u8 (x.toNat : Int), v] w fun e w' => e = .returned (.string (hashOf (tagL x ps))) ∧ Below w.heap.size w w' := by
  obtain ⟨a, cap, rfl, h⟩ := hv.ex
  by_cases h0 : 0 < ps.length
  · obtain ⟨blk, off, rfl, hlt, hc⟩ := h h0
    exact stagB_any x _ cap ps w blk off (fun _ => rfl) (fun _ => hlt) hc hK hsz hps
  · exact stagB_any x a cap ps w 0 0 (fun h => absurd h h0) (fun h => absurd h h0) (fun i hi => by omega) hK hsz hps
end Go.Proofs.YtiblkfkeifnpaaaGreatDoor

namespace Go.Proofs.YtiblkfkeifnpaaaGreatDoor
open Go.RowKit

def by1 (k : Nat) : ByteArray := one (UInt8.ofNat k)
def two (x y : UInt8) : ByteArray := ⟨#[x, y]⟩
def by2 (n : Nat) : ByteArray := two (UInt8.ofNat (n / 256)) (UInt8.ofNat n)
theorem hashL_length (m : List UInt8) : (hashL m).length = 32 := by
  rw [hashL]
  generalize stateAt (padded m) ((padded m).length / 64) = s
  rw [← List.take_of_length_le (l := s.list) (i := 8) (Nat.le_refl 8), flat4 s 8 (Nat.le_refl 8)]
theorem hashOf_size (m : List UInt8) : (hashOf m).size = 32 := by
  rw [show (hashOf m).size = (hashL m).length from by simp [hashOf, ByteArray.size], hashL_length]
/-- A tagged hash; its first sixteen bytes. -/
def tagS (k : UInt8) (ps : List ByteArray) : ByteArray := hashOf (tagL k ps)
def val (k : UInt8) (ps : List ByteArray) : ByteArray := (tagS k ps).extract 0 16
theorem tagS_size (k : UInt8) (ps : List ByteArray) : (tagS k ps).size = 32 := hashOf_size _
theorem val_size (k : UInt8) (ps : List ByteArray) : (val k ps).size = 16 := by
  rw [val, ByteArray.size_extract, tagS_size]; rfl
/-- A link, and c links from the place a. -/
def linkV (n i k : Nat) (x : ByteArray) : ByteArray := val 33 [by2 n, by1 i, by1 k, x]
def linksV (n i a : Nat) : Nat → ByteArray → ByteArray
  | 0, x => x
  | c + 1, x => linkV n i (a + c) (linksV n i a c x)
theorem linksV_add (n i a b : Nat) (x : ByteArray) : ∀ c, linksV n i a (b + c) x = linksV n i (a + b) c (linksV n i a b x)
  | 0 => rfl
  | c + 1 => by rw [← Nat.add_assoc, linksV, linksV, linksV_add n i a b x c, Nat.add_assoc]
theorem linksV_size (n i a : Nat) (x : ByteArray) (hx : x.size = 16) : ∀ c, (linksV n i a c x).size = 16
  | 0 => hx
  | _ + 1 => val_size _ _
def secV (s : ByteArray) (n i : Nat) : ByteArray := val 32 [s, by2 n, by1 i]
theorem secV_size (s : ByteArray) (n i : Nat) : (secV s n i).size = 16 := val_size _ _

/-- The digits that the first bytes of a text tell. -/
def lo (l : List UInt8) (i : Nat) : Nat := (l.getD i 0).toNat
def digP (l : List UInt8) : Nat → List Nat
  | 0 => []
  | i + 1 => digP l i ++ [lo l i / 16, lo l i % 16]
def lackN (l : List UInt8) : Nat → Nat
  | 0 => 0
  | i + 1 => lackN l i + ((15 - lo l i / 16) + (15 - lo l i % 16))
def digs (l : List UInt8) : List Nat := digP l 8 ++ [lackN l 8 / 16, lackN l 8 % 16]
theorem lo_lt (l : List UInt8) (i : Nat) : lo l i < 256 := (l.getD i 0).toNat_lt
theorem digP_length (l : List UInt8) : ∀ i, (digP l i).length = 2 * i
  | 0 => rfl
  | i + 1 => by rw [digP, List.length_append, digP_length l i]; rfl
theorem digs_length (l : List UInt8) : (digs l).length = 18 := by rw [digs, List.length_append, digP_length]; rfl
theorem lackN_le (l : List UInt8) : ∀ i, lackN l i ≤ 30 * i
  | 0 => Nat.le_refl _
  | i + 1 => by have := lackN_le l i; rw [lackN]; omega
theorem digP_le (l : List UInt8) : ∀ i, ∀ d ∈ digP l i, d ≤ 15
  | 0, d, h => by cases h
  | i + 1, d, h => by
    rw [digP, List.mem_append] at h
    have := lo_lt l i
    rcases h with h | h
    · exact digP_le l i d h
    · simp at h; omega
theorem digs_mem (l : List UInt8) : ∀ d ∈ digs l, d ≤ 15 := by
  intro d h
  rw [digs, List.mem_append] at h
  have := lackN_le l 8
  rcases h with h | h
  · exact digP_le l 8 d h
  · simp at h; omega
def dig (l : List UInt8) (j : Nat) : Nat := (digs l).getD j 0
theorem dig_le (l : List UInt8) (j : Nat) : dig l j ≤ 15 := by
  unfold dig
  rw [List.getD_eq_getElem?_getD]
  rcases h : (digs l)[j]? with _ | d
  · simp
  · exact digs_mem l d (List.mem_of_getElem? h)
/-- The same digits by the first eight bytes. -/
theorem lo_congr {l m : List UInt8} (h : ∀ i, i < 8 → l.getD i 0 = m.getD i 0) (i : Nat) (hi : i < 8) : lo l i = lo m i := by rw [lo, lo, h i hi]
theorem digP_congr {l m : List UInt8} (h : ∀ i, i < 8 → l.getD i 0 = m.getD i 0) : ∀ i, i ≤ 8 → digP l i = digP m i
  | 0, _ => rfl
  | i + 1, hi => by rw [digP, digP, digP_congr h i (by omega), lo_congr h i (by omega)]
theorem lackN_congr {l m : List UInt8} (h : ∀ i, i < 8 → l.getD i 0 = m.getD i 0) : ∀ i, i ≤ 8 → lackN l i = lackN m i
  | 0, _ => rfl
  | i + 1, hi => by rw [lackN, lackN, lackN_congr h i (by omega), lo_congr h i (by omega)]
theorem digs_congr {l m : List UInt8} (h : ∀ i, i < 8 → l.getD i 0 = m.getD i 0) : digs l = digs m := by
  rw [digs, digs, digP_congr h 8 (Nat.le_refl _), lackN_congr h 8 (Nat.le_refl _)]

/-- A row of eighteen numbers as cells: those that are known, zeros behind them. -/
def dcell (L : List Nat) : List Value := (L ++ List.replicate (18 - L.length) 0).map fun (n : Nat) => Value.int .i64 (n : Int)
theorem dcell_length (L : List Nat) (h : L.length ≤ 18) : (dcell L).length = 18 := by simp [dcell]; omega
theorem dcell_push (L : List Nat) (x : Nat) (k : Nat) (h : L.length = k) (hk : k < 18) : (dcell L).set k (.int .i64 (x : Int)) = dcell (L ++ [x]) := by
  subst h
  have : 18 - L.length = (18 - (L.length + 1)) + 1 := by omega
  simp [dcell, this, List.replicate_succ]
theorem dcell_get (L : List Nat) (h : L.length = 18) (j : Nat) (hj : j < 18) : (dcell L)[j]? = some (.int .i64 ((L.getD j 0 : Nat) : Int)) := by
  simp [dcell, h, hj, List.getD]
theorem dcell_zero (L : List Nat) (j : Nat) (h : L.length ≤ j) (hj : j < 18) : (dcell L)[j]? = some (.int .i64 0) := by
  rw [dcell, List.getElem?_map, List.getElem?_append_right h, List.getElem?_replicate]
  rw [if_pos (by omega)]; rfl

/-- Texts one behind the other. -/
def accL (g : Nat → ByteArray) : Nat → List UInt8
  | 0 => []
  | k + 1 => accL g k ++ (g k).data.toList
def accT (g : Nat → ByteArray) (k : Nat) : ByteArray := ⟨(accL g k).toArray⟩
theorem accL_length (g : Nat → ByteArray) (hg : ∀ i, (g i).size = 16) : ∀ k, (accL g k).length = 16 * k
  | 0 => rfl
  | k + 1 => by rw [accL, List.length_append, accL_length g hg k, data_len, hg k]; omega
theorem accT_size (g : Nat → ByteArray) (hg : ∀ i, (g i).size = 16) (k : Nat) : (accT g k).size = 16 * k := by
  rw [show (accT g k).size = (accL g k).length from by simp [accT, ByteArray.size], accL_length g hg]
theorem accT_congr {g f : Nat → ByteArray} : ∀ k, (∀ i, i < k → g i = f i) → accT g k = accT f k := by
  intro k h
  have : accL g k = accL f k := by
    induction k with
    | zero => rfl
    | succ k ih => rw [accL, accL, ih fun i hi => h i (by omega), h k (by omega)]
  rw [accT, accT, this]

/-- What a text's digits are told of; a signature, the ends, the public value. -/
def headL (t : ByteArray) : List UInt8 := hashL (tagL 34 [t])
def recV (n : Nat) (t q : ByteArray) (i : Nat) : ByteArray := linksV n i (dig (headL t) i) (15 - dig (headL t) i) (q.extract (16 * i) (16 * i + 16))
def recT (n : Nat) (t q : ByteArray) : ByteArray := tagS 35 [accT (recV n t q) 18]
theorem cut_size (q : ByteArray) (i : Nat) (hq : q.size = 288) (hi : i < 18) : (q.extract (16 * i) (16 * i + 16)).size = 16 := by
  rw [ByteArray.size_extract, hq]; omega
end Go.Proofs.YtiblkfkeifnpaaaGreatDoor

namespace Go.Proofs.YtiblkfkeifnpaaaGreatDoor
open Go.RowKit

/-- The node over two others; the nodes of a height; the ID. -/
def nodeV (a b : ByteArray) : ByteArray := tagS 37 [a, b]
def idV (h : Nat) (t : ByteArray) : ByteArray := tagS 38 [by1 h, t]
theorem nodeV_size (a b : ByteArray) : (nodeV a b).size = 32 := tagS_size _ _
/-- Texts of 32 bytes one behind the other. -/
theorem accL32 (g : Nat → ByteArray) (hg : ∀ i, (g i).size = 32) : ∀ k, (accL g k).length = 32 * k
  | 0 => rfl
  | k + 1 => by rw [accL, List.length_append, accL32 g hg k, data_len, hg k]; omega
/-- What comes out of a leaf and the texts beside. -/
def upV (leaf : ByteArray) (n : Nat) (q : ByteArray) : Nat → ByteArray
  | 0 => leaf
  | j + 1 => if n / 2 ^ j % 2 = 0 then nodeV (upV leaf n q j) (q.extract (32 * j) (32 * j + 32)) else nodeV (q.extract (32 * j) (32 * j + 32)) (upV leaf n q j)
theorem upV_size (leaf : ByteArray) (n : Nat) (q : ByteArray) (hl : leaf.size = 32) : ∀ j, (upV leaf n q j).size = 32
  | 0 => hl
  | _ + 1 => by rw [upV]; split <;> exact nodeV_size _ _
/-- What a signature's bytes say. -/
def sgH (q : ByteArray) : Nat := (q.data.toList.getD 0 0).toNat
def sgN (q : ByteArray) : Nat := (q.data.toList.getD 1 0).toNat * 256 + (q.data.toList.getD 2 0).toNat
def sgO (q : ByteArray) : ByteArray := q.extract 3 291
def sgB (q : ByteArray) : ByteArray := q.extract 291 q.size
def sgOk (q : ByteArray) : Bool := decide (291 ≤ q.size) && (decide (sgH q ≤ 4) && (decide (q.size = 291 + 32 * sgH q) && decide (sgN q < 2 ^ sgH q)))
theorem sgOk_iff (q : ByteArray) : sgOk q = true ↔ sgH q ≤ 4 ∧ q.size = 291 + 32 * sgH q ∧ sgN q < 2 ^ sgH q := by
  simp only [sgOk, Bool.and_eq_true, decide_eq_true_eq]
  omega
/-- What Verify answers, and Number. -/
def verE (id t q : ByteArray) : Int := if sgOk q then (if idV (sgH q) (upV (recT (sgN q) t (sgO q)) (sgN q) (sgB q) (sgH q)) = id then 0 else 9) else 3
end Go.Proofs.YtiblkfkeifnpaaaGreatDoor
