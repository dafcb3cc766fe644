/- Walk of sha.spread: the words of a block. -/
import Derived.Test.YtdnhpldcnmbncaaDoorShaA
import Derived.Test.YtdnhpldcnmbncaaDoorQt
import Derived.Lib.Hide
namespace Go.Proofs.YtdnhpldcnmbncaaDoor
open Go.RowKit

set_option maxHeartbeats 4000000 in
set_option maxRecDepth 100000 in
theorem spread_any (wb b o : Nat) (l : List UInt8) (w : World) (t0 : TypeId) (hne : wb ≠ b)
    (hw : Blk w wb (wcells 64 []) t0) (hc : ∀ i, i < 64 → w.cell? ⟨b, o + i, none⟩ = some (.int .u8 (Y (l.getD i 0)))) :
    Calls Tryd.prog 87 #[.pointer (some ⟨wb, 0, none⟩), .pointer (some ⟨b, o, none⟩)] w fun e w' => e = .returned (.tuple #[]) ∧ Blk w' wb (wcells 64 (schedTo l 64)) t0 ∧ Save w.heap.size wb w w' := by
  go_enter Tryd.func87, Tryd.ntmps87
  go_wp2
  go_loopw [4, 5, 7] (fun _ _ q wr => ∃ k : Nat, k ≤ 16 ∧ q = .int .i64 k ∧ Blk wr wb (wcells 64 (schedTo l k)) t0 ∧ Save w.heap.size wb w wr) (fun _ _ q _ => 16 - (intOf q).toNat)
  case atStart => exact ⟨0, by omega, rfl, hw, Save.refl _ _ _⟩
  case round =>
    obtain ⟨k, hk, rfl, hW, hS⟩ := hrel
    have hbb : b < w.heap.size := block_lt_of_cell (hc 0 (by omega))
    have hfz := hW.free k
    by_cases hlt : k < 16
    · have hst : wr.cell? ⟨wb, k, none⟩ = some (.int .u32 0) := by
        rw [hW.cell]; exact wcells_zero 64 _ k (schedTo_length l k) (by omega)
      have hr : ∀ i, i < 64 → wr.cell? ⟨b, o + i, none⟩ = some (.int .u8 (Y (l.getD i 0))) := fun i hi => by
        rw [hS.cell (p := ⟨b, o + i, none⟩) hbb (fun h => hne h.symm)]; exact hc i hi
      obtain ⟨y0, hy0⟩ : ∃ y, l.getD (4 * k) 0 = y := ⟨_, rfl⟩
      obtain ⟨y1, hy1⟩ : ∃ y, l.getD (4 * k + 1) 0 = y := ⟨_, rfl⟩
      obtain ⟨y2, hy2⟩ : ∃ y, l.getD (4 * k + 2) 0 = y := ⟨_, rfl⟩
      obtain ⟨y3, hy3⟩ : ∃ y, l.getD (4 * k + 3) 0 = y := ⟨_, rfl⟩
      have c0 := hr (4 * k) (by omega)
      have c1 := hr (4 * k + 1) (by omega)
      have c2 := hr (4 * k + 2) (by omega)
      have c3 := hr (4 * k + 3) (by omega)
      rw [hy0] at c0; rw [hy1] at c1; rw [hy2] at c2; rw [hy3] at c3
      have HY : Hid (wordAt l k = y0.toBitVec.setWidth 32 <<< 24 ||| y1.toBitVec.setWidth 32 <<< 16 ||| y2.toBitVec.setWidth 32 <<< 8 ||| y3.toBitVec.setWidth 32) := by
        show _ = _
        simp only [wordAt, byteAt, hy0, hy1, hy2, hy3]
      clear hr hy0 hy1 hy2 hy3 hc
      go_wp2
      have ux := Y_wrap
      have uo := U_or
      have us1 := fun a => U_shl a 24 16777216 (by decide)
      have us2 := fun a => U_shl a 16 65536 (by decide)
      have us3 := fun a => U_shl a 8 256 (by decide)
      refine region_quiet_tail_lit 37 (by kernel_rfl) (by kernel_rfl) ?_
      simp only [List.take_succ_cons, List.take_zero, List.drop_succ_cons, List.drop_zero]
      repeat (go_big_quiet_step (fail))
      refine wpQuiet_nil ?_
      intro _ hw'
      obtain ⟨nq, hw''⟩ := hw'
      subst hw''
      go_wp2
      have hS' := hS.drewN nq
      have hm : 16 - (intOf (Value.int IntKind.i64 (↑k + 1))).toNat < 16 - (intOf (Value.int IntKind.i64 ↑k)).toNat := by simp [intOf]; omega
      refine ⟨⟨k + 1, by omega, by go_num, ?_, ?_⟩, hm⟩
      rotate_left
      · exact hS'.setCell (.inl rfl) _
      exact blk_low l k _ hlt HY.out hW
    · obtain rfl : k = 16 := by omega
      clear hfz hlt hk hc
      go_wp2
      go_loopw [6] (fun q wr => ∃ k : Nat, 16 ≤ k ∧ k ≤ 64 ∧ q = .int .i64 k ∧ Blk wr wb (wcells 64 (schedTo l k)) t0 ∧ Save w.heap.size wb w wr) (fun q _ => 64 - (intOf q).toNat)
      case atStart => exact ⟨16, by omega, by omega, rfl, hW, hS⟩
      case round =>
        clear hW hS
        rename_i wq
        obtain ⟨k, hk0, hk, rfl, hW, hS⟩ := hrel
        by_cases hlt : k < 64
        · obtain ⟨m, rfl⟩ : ∃ m, k = m + 16 := ⟨k - 16, by omega⟩
          have hfz := hW.free (m + 16)
          have hst := hW.cell (m + 16)
          rw [wcells_zero 64 _ _ (schedTo_length l (m + 16)) (by omega)] at hst
          have c0 := hW.cell m
          rw [wcells_get' 64 _ _ _ (schedTo_length l (m + 16)) (by omega)] at c0
          have c1 := hW.cell (m + 1)
          rw [wcells_get' 64 _ _ _ (schedTo_length l (m + 16)) (by omega)] at c1
          have c2 := hW.cell (m + 9)
          rw [wcells_get' 64 _ _ _ (schedTo_length l (m + 16)) (by omega)] at c2
          have c3 := hW.cell (m + 14)
          rw [wcells_get' 64 _ _ _ (schedTo_length l (m + 16)) (by omega)] at c3
          have HS := sched_high l m
          rw [s0_sft, s1_sft] at HS
          replace HS := Lib.hid HS
          generalize (schedTo l (m + 16)).getD m 0 = x0 at c0 HS
          generalize (schedTo l (m + 16)).getD (m + 1) 0 = x1 at c1 HS
          generalize (schedTo l (m + 16)).getD (m + 9) 0 = x2 at c2 HS
          generalize (schedTo l (m + 16)).getD (m + 14) 0 = x3 at c3 HS
          go_wp2
          have ua := U_add
          refine region_quiet_tail_lit 33 (by kernel_rfl) (by kernel_rfl) ?_
          simp only [List.take_succ_cons, List.take_zero, List.drop_succ_cons, List.drop_zero]
          repeat (go_big_quiet_step ((go_at_call 96; exact Calls.quiet_of (shift_any _ _ _ _ _ (by omega) (by omega) (by omega)))))
          refine wpQuiet_nil ?_
          intro _ hw'
          obtain ⟨nq, hw''⟩ := hw'
          subst hw''
          go_wp2
          have hS' := hS.drewN nq
          have hm : 64 - (intOf (Value.int IntKind.i64 (↑(m + 16) + 1))).toNat < 64 - (intOf (Value.int IntKind.i64 ↑(m + 16))).toNat := by simp [intOf]; omega
          refine ⟨⟨m + 16 + 1, by omega, by omega, by go_num, ?_, ?_⟩, hm⟩
          rotate_left
          · exact hS'.setCell (.inl rfl) _
          exact blk_high l m _ hlt HS.out hW
        · obtain rfl : k = 64 := by omega
          go_wp2
          go_end0
          exact ⟨rfl, hW, hS⟩
end Go.Proofs.YtdnhpldcnmbncaaDoor
