/- Walk of one call of both readers. -/
import Derived.Test.YtnfcgjefliccgaaPkR
namespace Go.Proofs.Ytnfcgjefliccgaa
open Go.RowKit

set_option maxHeartbeats 3200000 in
set_option maxRecDepth 100000 in
theorem read_0 (k : UInt8) (n : Int) (s : ByteArray) (br bx : Nat) (l : List UInt8) (e : Int) (w : World) (h : Two w br bx l e) (hm : k.toNat % 8 = 0) :
    Calls Try.prog 13 #[.pointer (some ⟨br, 0, none⟩), .pointer (some ⟨bx, 0, none⟩), .agg #[.int .u8 (k.toNat : Int), .int .i64 n, .string s]] w
      fun r w' => r = .returned (.bool true) ∧ ∃ l' e', TwoNext w br bx l' e' w' := by
  obtain ⟨wb, hwb⟩ : ∃ wb, w.alloc (.cells #[.int .u8 (k.toNat : Int), .int .i64 n, .string s] 31) = wb := ⟨_, rfl⟩
  have hC0 : Chg (fun _ => False) w wb := by rw [← hwb]; exact (Chg.refl _ _).alloc _
  have hNb := Blk.new w [.int .u8 (k.toNat : Int), .int .i64 n, .string s] 31
  rw [hwb] at hNb
  have h2 : Two wb br bx l e := ⟨h.r.chg hC0 (fun h => h), h.x.chg hC0 (fun h => h)⟩
  obtain ⟨bo, hbo⟩ : ∃ bo, w.heap.size = bo := ⟨_, rfl⟩
  rw [hbo] at hNb
  have c0 : wb.cell? ⟨bo, 0, none⟩ = some (.int .u8 (k.toNat : Int)) := hNb.cell 0
  have c1 : wb.cell? ⟨bo, 1, none⟩ = some (.int .i64 n) := hNb.cell 1
  have hkm : (k.toNat : Int).tmod 8 = (0 : Int) := by rw [Int.tmod_eq_emod_of_nonneg (by omega)]; omega
  have hor : bo ≠ br := by have := h.r.lt; omega
  have hox : bo ≠ bx := by have := h.x.lt; omega
  replace hm := Box.mk hm
  replace hC0 := Box.mk hC0
  have hA := rbyte_any br l e wb h2.r
  replace h2 := Box.mk h2
  replace h := Box.mk h
  replace hA := Box.mk hA
  replace hNb := Box.mk hNb
  replace hor := Box.mk hor
  replace hox := Box.mk hox
  go_enter Try.func13, Try.ntmps13
  go_wp2_with fail
  refine hA.out.mono ?_
  rintro r w1 ⟨rfl, hN1⟩
  have hB := xnumber_any bx l e 1 w1 (h2.out.x.chg hN1.chg (Ne.symm h2.out.ne)) (by omega)
  replace hB := Box.mk hB
  replace hN1 := Box.mk hN1
  clear hA
  go_wp2_with fail
  refine hB.out.mono ?_
  rintro r w2 ⟨rfl, hN2⟩
  have hT := Box.mk (TwoNext.of h2.out hN1.out hN2)
  clear hB hN1 hN2
  generalize (numR 1 l e).2.2 = e2 at hT ⊢
  generalize (numR 1 l e).2.1 = l2 at hT ⊢
  generalize (numR 1 l e).1 = v2
  go_wp2_with fail
  refine region_go (C := fun w' => Two w' br bx l2 e2) rfl ?_
  have hTd : Box (Two w2.drew br bx l2 e2) := ⟨⟨hT.out.two.r, hT.out.two.x⟩⟩
  have hCd : Box (Chg (fun k => k = br ∨ k = bx) wb w2.drew) := ⟨hT.out.chg.drew⟩
  clear hT
  generalize w2.drew = wd at hTd hCd ⊢
  have hz := mk_size l2
  refine go_calms [0, 1, 2, 3, 4, 5, 6, 7, 8, 9, 11, 12, 13] 15 rfl (by kernel_rfl) (by kernel_rfl) (by kernel_rfl) hTd.out ?_
  simp [nth]
  repeat (go_big_quiet_step (first | exact fun _ => rfl | rfl))
  refine wpQuiet_nil ?_
  refine go_calms [14] 14 rfl (by kernel_rfl) (by kernel_rfl) (by kernel_rfl) hTd.out ?_
  simp [nth]
  refine quiet_any rfl (.string (btx l2)) (fun w' hw' => by have c9 : w'.cell? ⟨bx, 0, none⟩ = some (.string (btx l2)) := hw'.x.cell 0; go_simp) ?_
  refine wpQuiet_nil ?_
  refine go_calm 15 (by kernel_rfl) rfl (by kernel_rfl) (by kernel_rfl) hTd.out (yields (v := .int .i64 (l2.length : Int)) rfl (fun w' hw' => by go_simp)) ?_
  simp only [Act.put, List.setIfInBounds_toArray, List.set_cons_succ, List.set_cons_zero]
  refine go_forced 10 (by kernel_rfl) (goOp_wp 10 rfl rfl (fun K hK => ?_))
  go_simp
  refine (left_any br l2 e2 wd hTd.out.r).mono ?_
  rintro r w' ⟨rfl, rfl⟩
  refine hK _ _ hTd.out ?_
  clear hK K
  refine go_calms [16, 17, 18, 19, 21, 22, 23] 5 rfl (by kernel_rfl) (by kernel_rfl) (by kernel_rfl) hTd.out ?_
  simp [nth]
  repeat (go_big_quiet_step (first | exact fun _ => rfl | rfl))
  refine wpQuiet_nil ?_
  refine go_calms [24] 4 rfl (by kernel_rfl) (by kernel_rfl) (by kernel_rfl) hTd.out ?_
  simp [nth]
  refine quiet_any rfl (.int .i64 e2) (fun w' hw' => by have c9 : w'.cell? ⟨bx, 1, none⟩ = some (.int .i64 e2) := hw'.x.cell 1; go_simp) ?_
  refine wpQuiet_nil ?_
  simp only [Act.put, List.setIfInBounds_toArray, List.set_cons_succ, List.set_cons_zero]
  refine go_forced 20 (by kernel_rfl) (goOp_wp 20 rfl rfl (fun K hK => ?_))
  go_simp
  refine (err_any br l2 e2 wd hTd.out.r).mono ?_
  rintro r w' ⟨rfl, rfl⟩
  refine hK _ _ hTd.out ?_
  clear hK K
  refine go_calms [25, 26, 27] 0 rfl (by kernel_rfl) (by kernel_rfl) (by kernel_rfl) hTd.out ?_
  simp [nth]
  repeat (go_big_quiet_step (first | exact fun _ => rfl | rfl))
  refine wpQuiet_nil ?_
  refine go_done (by kernel_rfl) ?_
  go_wp2_with fail
  go_returns
  exact ⟨rfl, l2, e2, ⟨hTd.out, (hC0.out.mono fun _ _ h => h.elim).trans hCd.out fun _ _ h => h⟩⟩
set_option maxHeartbeats 3200000 in
set_option maxRecDepth 100000 in
theorem read_1 (k : UInt8) (n : Int) (s : ByteArray) (br bx : Nat) (l : List UInt8) (e : Int) (w : World) (h : Two w br bx l e) (hm : k.toNat % 8 = 1) :
    Calls Try.prog 13 #[.pointer (some ⟨br, 0, none⟩), .pointer (some ⟨bx, 0, none⟩), .agg #[.int .u8 (k.toNat : Int), .int .i64 n, .string s]] w
      fun r w' => r = .returned (.bool true) ∧ ∃ l' e', TwoNext w br bx l' e' w' := by
  obtain ⟨wb, hwb⟩ : ∃ wb, w.alloc (.cells #[.int .u8 (k.toNat : Int), .int .i64 n, .string s] 31) = wb := ⟨_, rfl⟩
  have hC0 : Chg (fun _ => False) w wb := by rw [← hwb]; exact (Chg.refl _ _).alloc _
  have hNb := Blk.new w [.int .u8 (k.toNat : Int), .int .i64 n, .string s] 31
  rw [hwb] at hNb
  have h2 : Two wb br bx l e := ⟨h.r.chg hC0 (fun h => h), h.x.chg hC0 (fun h => h)⟩
  obtain ⟨bo, hbo⟩ : ∃ bo, w.heap.size = bo := ⟨_, rfl⟩
  rw [hbo] at hNb
  have c0 : wb.cell? ⟨bo, 0, none⟩ = some (.int .u8 (k.toNat : Int)) := hNb.cell 0
  have c1 : wb.cell? ⟨bo, 1, none⟩ = some (.int .i64 n) := hNb.cell 1
  have hkm : (k.toNat : Int).tmod 8 = (1 : Int) := by rw [Int.tmod_eq_emod_of_nonneg (by omega)]; omega
  have hor : bo ≠ br := by have := h.r.lt; omega
  have hox : bo ≠ bx := by have := h.x.lt; omega
  replace hm := Box.mk hm
  replace hC0 := Box.mk hC0
  have hA := rtwo_any br l e wb h2.r
  replace h2 := Box.mk h2
  replace h := Box.mk h
  replace hA := Box.mk hA
  replace hNb := Box.mk hNb
  replace hor := Box.mk hor
  replace hox := Box.mk hox
  go_enter Try.func13, Try.ntmps13
  go_wp2_with fail
  refine hA.out.mono ?_
  rintro r w1 ⟨rfl, hN1⟩
  have hB := xnumber_any bx l e 2 w1 (h2.out.x.chg hN1.chg (Ne.symm h2.out.ne)) (by omega)
  replace hB := Box.mk hB
  replace hN1 := Box.mk hN1
  clear hA
  go_wp2_with fail
  refine hB.out.mono ?_
  rintro r w2 ⟨rfl, hN2⟩
  have hT := Box.mk (TwoNext.of h2.out hN1.out hN2)
  clear hB hN1 hN2
  generalize (numR 2 l e).2.2 = e2 at hT ⊢
  generalize (numR 2 l e).2.1 = l2 at hT ⊢
  generalize (numR 2 l e).1 = v2
  go_wp2_with fail
  refine region_go (C := fun w' => Two w' br bx l2 e2) rfl ?_
  have hTd : Box (Two w2.drew br bx l2 e2) := ⟨⟨hT.out.two.r, hT.out.two.x⟩⟩
  have hCd : Box (Chg (fun k => k = br ∨ k = bx) wb w2.drew) := ⟨hT.out.chg.drew⟩
  clear hT
  generalize w2.drew = wd at hTd hCd ⊢
  have hz := mk_size l2
  refine go_calms [0, 1, 2, 3, 4, 5, 6, 7, 8, 9, 11, 12, 13] 15 rfl (by kernel_rfl) (by kernel_rfl) (by kernel_rfl) hTd.out ?_
  simp [nth]
  repeat (go_big_quiet_step (first | exact fun _ => rfl | rfl))
  refine wpQuiet_nil ?_
  refine go_calms [14] 14 rfl (by kernel_rfl) (by kernel_rfl) (by kernel_rfl) hTd.out ?_
  simp [nth]
  refine quiet_any rfl (.string (btx l2)) (fun w' hw' => by have c9 : w'.cell? ⟨bx, 0, none⟩ = some (.string (btx l2)) := hw'.x.cell 0; go_simp) ?_
  refine wpQuiet_nil ?_
  refine go_calm 15 (by kernel_rfl) rfl (by kernel_rfl) (by kernel_rfl) hTd.out (yields (v := .int .i64 (l2.length : Int)) rfl (fun w' hw' => by go_simp)) ?_
  simp only [Act.put, List.setIfInBounds_toArray, List.set_cons_succ, List.set_cons_zero]
  refine go_forced 10 (by kernel_rfl) (goOp_wp 10 rfl rfl (fun K hK => ?_))
  go_simp
  refine (left_any br l2 e2 wd hTd.out.r).mono ?_
  rintro r w' ⟨rfl, rfl⟩
  refine hK _ _ hTd.out ?_
  clear hK K
  refine go_calms [16, 17, 18, 19, 21, 22, 23] 5 rfl (by kernel_rfl) (by kernel_rfl) (by kernel_rfl) hTd.out ?_
  simp [nth]
  repeat (go_big_quiet_step (first | exact fun _ => rfl | rfl))
  refine wpQuiet_nil ?_
  refine go_calms [24] 4 rfl (by kernel_rfl) (by kernel_rfl) (by kernel_rfl) hTd.out ?_
  simp [nth]
  refine quiet_any rfl (.int .i64 e2) (fun w' hw' => by have c9 : w'.cell? ⟨bx, 1, none⟩ = some (.int .i64 e2) := hw'.x.cell 1; go_simp) ?_
  refine wpQuiet_nil ?_
  simp only [Act.put, List.setIfInBounds_toArray, List.set_cons_succ, List.set_cons_zero]
  refine go_forced 20 (by kernel_rfl) (goOp_wp 20 rfl rfl (fun K hK => ?_))
  go_simp
  refine (err_any br l2 e2 wd hTd.out.r).mono ?_
  rintro r w' ⟨rfl, rfl⟩
  refine hK _ _ hTd.out ?_
  clear hK K
  refine go_calms [25, 26, 27] 0 rfl (by kernel_rfl) (by kernel_rfl) (by kernel_rfl) hTd.out ?_
  simp [nth]
  repeat (go_big_quiet_step (first | exact fun _ => rfl | rfl))
  refine wpQuiet_nil ?_
  refine go_done (by kernel_rfl) ?_
  go_wp2_with fail
  go_returns
  exact ⟨rfl, l2, e2, ⟨hTd.out, (hC0.out.mono fun _ _ h => h.elim).trans hCd.out fun _ _ h => h⟩⟩
set_option maxHeartbeats 3200000 in
set_option maxRecDepth 100000 in
theorem read_2 (k : UInt8) (n : Int) (s : ByteArray) (br bx : Nat) (l : List UInt8) (e : Int) (w : World) (h : Two w br bx l e) (hm : k.toNat % 8 = 2) :
    Calls Try.prog 13 #[.pointer (some ⟨br, 0, none⟩), .pointer (some ⟨bx, 0, none⟩), .agg #[.int .u8 (k.toNat : Int), .int .i64 n, .string s]] w
      fun r w' => r = .returned (.bool true) ∧ ∃ l' e', TwoNext w br bx l' e' w' := by
  obtain ⟨wb, hwb⟩ : ∃ wb, w.alloc (.cells #[.int .u8 (k.toNat : Int), .int .i64 n, .string s] 31) = wb := ⟨_, rfl⟩
  have hC0 : Chg (fun _ => False) w wb := by rw [← hwb]; exact (Chg.refl _ _).alloc _
  have hNb := Blk.new w [.int .u8 (k.toNat : Int), .int .i64 n, .string s] 31
  rw [hwb] at hNb
  have h2 : Two wb br bx l e := ⟨h.r.chg hC0 (fun h => h), h.x.chg hC0 (fun h => h)⟩
  obtain ⟨bo, hbo⟩ : ∃ bo, w.heap.size = bo := ⟨_, rfl⟩
  rw [hbo] at hNb
  have c0 : wb.cell? ⟨bo, 0, none⟩ = some (.int .u8 (k.toNat : Int)) := hNb.cell 0
  have c1 : wb.cell? ⟨bo, 1, none⟩ = some (.int .i64 n) := hNb.cell 1
  have hkm : (k.toNat : Int).tmod 8 = (2 : Int) := by rw [Int.tmod_eq_emod_of_nonneg (by omega)]; omega
  have hor : bo ≠ br := by have := h.r.lt; omega
  have hox : bo ≠ bx := by have := h.x.lt; omega
  replace hm := Box.mk hm
  replace hC0 := Box.mk hC0
  have hA := rfour_any br l e wb h2.r
  replace h2 := Box.mk h2
  replace h := Box.mk h
  replace hA := Box.mk hA
  replace hNb := Box.mk hNb
  replace hor := Box.mk hor
  replace hox := Box.mk hox
  go_enter Try.func13, Try.ntmps13
  go_wp2_with fail
  refine hA.out.mono ?_
  rintro r w1 ⟨rfl, hN1⟩
  have hB := xnumber_any bx l e 4 w1 (h2.out.x.chg hN1.chg (Ne.symm h2.out.ne)) (by omega)
  replace hB := Box.mk hB
  replace hN1 := Box.mk hN1
  clear hA
  go_wp2_with fail
  refine hB.out.mono ?_
  rintro r w2 ⟨rfl, hN2⟩
  have hT := Box.mk (TwoNext.of h2.out hN1.out hN2)
  clear hB hN1 hN2
  generalize (numR 4 l e).2.2 = e2 at hT ⊢
  generalize (numR 4 l e).2.1 = l2 at hT ⊢
  generalize (numR 4 l e).1 = v2
  go_wp2_with fail
  refine region_go (C := fun w' => Two w' br bx l2 e2) rfl ?_
  have hTd : Box (Two w2.drew br bx l2 e2) := ⟨⟨hT.out.two.r, hT.out.two.x⟩⟩
  have hCd : Box (Chg (fun k => k = br ∨ k = bx) wb w2.drew) := ⟨hT.out.chg.drew⟩
  clear hT
  generalize w2.drew = wd at hTd hCd ⊢
  have hz := mk_size l2
  refine go_calms [0, 1, 2, 3, 4, 5, 6, 7, 8, 9, 11, 12, 13] 15 rfl (by kernel_rfl) (by kernel_rfl) (by kernel_rfl) hTd.out ?_
  simp [nth]
  repeat (go_big_quiet_step (first | exact fun _ => rfl | rfl))
  refine wpQuiet_nil ?_
  refine go_calms [14] 14 rfl (by kernel_rfl) (by kernel_rfl) (by kernel_rfl) hTd.out ?_
  simp [nth]
  refine quiet_any rfl (.string (btx l2)) (fun w' hw' => by have c9 : w'.cell? ⟨bx, 0, none⟩ = some (.string (btx l2)) := hw'.x.cell 0; go_simp) ?_
  refine wpQuiet_nil ?_
  refine go_calm 15 (by kernel_rfl) rfl (by kernel_rfl) (by kernel_rfl) hTd.out (yields (v := .int .i64 (l2.length : Int)) rfl (fun w' hw' => by go_simp)) ?_
  simp only [Act.put, List.setIfInBounds_toArray, List.set_cons_succ, List.set_cons_zero]
  refine go_forced 10 (by kernel_rfl) (goOp_wp 10 rfl rfl (fun K hK => ?_))
  go_simp
  refine (left_any br l2 e2 wd hTd.out.r).mono ?_
  rintro r w' ⟨rfl, rfl⟩
  refine hK _ _ hTd.out ?_
  clear hK K
  refine go_calms [16, 17, 18, 19, 21, 22, 23] 5 rfl (by kernel_rfl) (by kernel_rfl) (by kernel_rfl) hTd.out ?_
  simp [nth]
  repeat (go_big_quiet_step (first | exact fun _ => rfl | rfl))
  refine wpQuiet_nil ?_
  refine go_calms [24] 4 rfl (by kernel_rfl) (by kernel_rfl) (by kernel_rfl) hTd.out ?_
  simp [nth]
  refine quiet_any rfl (.int .i64 e2) (fun w' hw' => by have c9 : w'.cell? ⟨bx, 1, none⟩ = some (.int .i64 e2) := hw'.x.cell 1; go_simp) ?_
  refine wpQuiet_nil ?_
  simp only [Act.put, List.setIfInBounds_toArray, List.set_cons_succ, List.set_cons_zero]
  refine go_forced 20 (by kernel_rfl) (goOp_wp 20 rfl rfl (fun K hK => ?_))
  go_simp
  refine (err_any br l2 e2 wd hTd.out.r).mono ?_
  rintro r w' ⟨rfl, rfl⟩
  refine hK _ _ hTd.out ?_
  clear hK K
  refine go_calms [25, 26, 27] 0 rfl (by kernel_rfl) (by kernel_rfl) (by kernel_rfl) hTd.out ?_
  simp [nth]
  repeat (go_big_quiet_step (first | exact fun _ => rfl | rfl))
  refine wpQuiet_nil ?_
  refine go_done (by kernel_rfl) ?_
  go_wp2_with fail
  go_returns
  exact ⟨rfl, l2, e2, ⟨hTd.out, (hC0.out.mono fun _ _ h => h.elim).trans hCd.out fun _ _ h => h⟩⟩
set_option maxHeartbeats 3200000 in
set_option maxRecDepth 100000 in
theorem read_3 (k : UInt8) (n : Int) (s : ByteArray) (br bx : Nat) (l : List UInt8) (e : Int) (w : World) (h : Two w br bx l e) (hm : k.toNat % 8 = 3) :
    Calls Try.prog 13 #[.pointer (some ⟨br, 0, none⟩), .pointer (some ⟨bx, 0, none⟩), .agg #[.int .u8 (k.toNat : Int), .int .i64 n, .string s]] w
      fun r w' => r = .returned (.bool true) ∧ ∃ l' e', TwoNext w br bx l' e' w' := by
  obtain ⟨wb, hwb⟩ : ∃ wb, w.alloc (.cells #[.int .u8 (k.toNat : Int), .int .i64 n, .string s] 31) = wb := ⟨_, rfl⟩
  have hC0 : Chg (fun _ => False) w wb := by rw [← hwb]; exact (Chg.refl _ _).alloc _
  have hNb := Blk.new w [.int .u8 (k.toNat : Int), .int .i64 n, .string s] 31
  rw [hwb] at hNb
  have h2 : Two wb br bx l e := ⟨h.r.chg hC0 (fun h => h), h.x.chg hC0 (fun h => h)⟩
  obtain ⟨bo, hbo⟩ : ∃ bo, w.heap.size = bo := ⟨_, rfl⟩
  rw [hbo] at hNb
  have c0 : wb.cell? ⟨bo, 0, none⟩ = some (.int .u8 (k.toNat : Int)) := hNb.cell 0
  have c1 : wb.cell? ⟨bo, 1, none⟩ = some (.int .i64 n) := hNb.cell 1
  have hkm : (k.toNat : Int).tmod 8 = (3 : Int) := by rw [Int.tmod_eq_emod_of_nonneg (by omega)]; omega
  have hor : bo ≠ br := by have := h.r.lt; omega
  have hox : bo ≠ bx := by have := h.x.lt; omega
  replace hm := Box.mk hm
  replace hC0 := Box.mk hC0
  have hA := reight_any br l e wb h2.r
  replace h2 := Box.mk h2
  replace h := Box.mk h
  replace hA := Box.mk hA
  replace hNb := Box.mk hNb
  replace hor := Box.mk hor
  replace hox := Box.mk hox
  go_enter Try.func13, Try.ntmps13
  go_wp2_with fail
  refine hA.out.mono ?_
  rintro r w1 ⟨rfl, hN1⟩
  have hB := xnumber_any bx l e 8 w1 (h2.out.x.chg hN1.chg (Ne.symm h2.out.ne)) (by omega)
  replace hB := Box.mk hB
  replace hN1 := Box.mk hN1
  clear hA
  go_wp2_with fail
  refine hB.out.mono ?_
  rintro r w2 ⟨rfl, hN2⟩
  have hT := Box.mk (TwoNext.of h2.out hN1.out hN2)
  clear hB hN1 hN2
  generalize (numR 8 l e).2.2 = e2 at hT ⊢
  generalize (numR 8 l e).2.1 = l2 at hT ⊢
  generalize (numR 8 l e).1 = v2
  go_wp2_with fail
  refine region_go (C := fun w' => Two w' br bx l2 e2) rfl ?_
  have hTd : Box (Two w2.drew br bx l2 e2) := ⟨⟨hT.out.two.r, hT.out.two.x⟩⟩
  have hCd : Box (Chg (fun k => k = br ∨ k = bx) wb w2.drew) := ⟨hT.out.chg.drew⟩
  clear hT
  generalize w2.drew = wd at hTd hCd ⊢
  have hz := mk_size l2
  refine go_calms [0, 1, 2, 3, 4, 5, 6, 7, 8, 9, 11, 12, 13] 15 rfl (by kernel_rfl) (by kernel_rfl) (by kernel_rfl) hTd.out ?_
  simp [nth]
  repeat (go_big_quiet_step (first | exact fun _ => rfl | rfl))
  refine wpQuiet_nil ?_
  refine go_calms [14] 14 rfl (by kernel_rfl) (by kernel_rfl) (by kernel_rfl) hTd.out ?_
  simp [nth]
  refine quiet_any rfl (.string (btx l2)) (fun w' hw' => by have c9 : w'.cell? ⟨bx, 0, none⟩ = some (.string (btx l2)) := hw'.x.cell 0; go_simp) ?_
  refine wpQuiet_nil ?_
  refine go_calm 15 (by kernel_rfl) rfl (by kernel_rfl) (by kernel_rfl) hTd.out (yields (v := .int .i64 (l2.length : Int)) rfl (fun w' hw' => by go_simp)) ?_
  simp only [Act.put, List.setIfInBounds_toArray, List.set_cons_succ, List.set_cons_zero]
  refine go_forced 10 (by kernel_rfl) (goOp_wp 10 rfl rfl (fun K hK => ?_))
  go_simp
  refine (left_any br l2 e2 wd hTd.out.r).mono ?_
  rintro r w' ⟨rfl, rfl⟩
  refine hK _ _ hTd.out ?_
  clear hK K
  refine go_calms [16, 17, 18, 19, 21, 22, 23] 5 rfl (by kernel_rfl) (by kernel_rfl) (by kernel_rfl) hTd.out ?_
  simp [nth]
  repeat (go_big_quiet_step (first | exact fun _ => rfl | rfl))
  refine wpQuiet_nil ?_
  refine go_calms [24] 4 rfl (by kernel_rfl) (by kernel_rfl) (by kernel_rfl) hTd.out ?_
  simp [nth]
  refine quiet_any rfl (.int .i64 e2) (fun w' hw' => by have c9 : w'.cell? ⟨bx, 1, none⟩ = some (.int .i64 e2) := hw'.x.cell 1; go_simp) ?_
  refine wpQuiet_nil ?_
  simp only [Act.put, List.setIfInBounds_toArray, List.set_cons_succ, List.set_cons_zero]
  refine go_forced 20 (by kernel_rfl) (goOp_wp 20 rfl rfl (fun K hK => ?_))
  go_simp
  refine (err_any br l2 e2 wd hTd.out.r).mono ?_
  rintro r w' ⟨rfl, rfl⟩
  refine hK _ _ hTd.out ?_
  clear hK K
  refine go_calms [25, 26, 27] 0 rfl (by kernel_rfl) (by kernel_rfl) (by kernel_rfl) hTd.out ?_
  simp [nth]
  repeat (go_big_quiet_step (first | exact fun _ => rfl | rfl))
  refine wpQuiet_nil ?_
  refine go_done (by kernel_rfl) ?_
  go_wp2_with fail
  go_returns
  exact ⟨rfl, l2, e2, ⟨hTd.out, (hC0.out.mono fun _ _ h => h.elim).trans hCd.out fun _ _ h => h⟩⟩
set_option maxHeartbeats 3200000 in
set_option maxRecDepth 100000 in
theorem read_5 (k : UInt8) (n : Int) (s : ByteArray) (br bx : Nat) (l : List UInt8) (e : Int) (w : World) (h : Two w br bx l e) (hm : k.toNat % 8 = 5) :
    Calls Try.prog 13 #[.pointer (some ⟨br, 0, none⟩), .pointer (some ⟨bx, 0, none⟩), .agg #[.int .u8 (k.toNat : Int), .int .i64 n, .string s]] w
      fun r w' => r = .returned (.bool true) ∧ ∃ l' e', TwoNext w br bx l' e' w' := by
  obtain ⟨wb, hwb⟩ : ∃ wb, w.alloc (.cells #[.int .u8 (k.toNat : Int), .int .i64 n, .string s] 31) = wb := ⟨_, rfl⟩
  have hC0 : Chg (fun _ => False) w wb := by rw [← hwb]; exact (Chg.refl _ _).alloc _
  have hNb := Blk.new w [.int .u8 (k.toNat : Int), .int .i64 n, .string s] 31
  rw [hwb] at hNb
  have h2 : Two wb br bx l e := ⟨h.r.chg hC0 (fun h => h), h.x.chg hC0 (fun h => h)⟩
  obtain ⟨bo, hbo⟩ : ∃ bo, w.heap.size = bo := ⟨_, rfl⟩
  rw [hbo] at hNb
  have c0 : wb.cell? ⟨bo, 0, none⟩ = some (.int .u8 (k.toNat : Int)) := hNb.cell 0
  have c1 : wb.cell? ⟨bo, 1, none⟩ = some (.int .i64 n) := hNb.cell 1
  have hkm : (k.toNat : Int).tmod 8 = (5 : Int) := by rw [Int.tmod_eq_emod_of_nonneg (by omega)]; omega
  have hor : bo ≠ br := by have := h.r.lt; omega
  have hox : bo ≠ bx := by have := h.x.lt; omega
  replace hm := Box.mk hm
  replace hC0 := Box.mk hC0
  have hA := rhash_any br l e wb h2.r
  replace h2 := Box.mk h2
  replace h := Box.mk h
  replace hA := Box.mk hA
  replace hNb := Box.mk hNb
  replace hor := Box.mk hor
  replace hox := Box.mk hox
  go_enter Try.func13, Try.ntmps13
  go_wp2_with fail
  refine hA.out.mono ?_
  rintro r w1 ⟨rfl, hN1⟩
  have hB := xraw_any bx l e 32 w1 (h2.out.x.chg hN1.chg (Ne.symm h2.out.ne))
  replace hB := Box.mk hB
  replace hN1 := Box.mk hN1
  clear hA
  go_wp2_with fail
  refine hB.out.mono ?_
  rintro r w2 ⟨rfl, hN2⟩
  have hT := Box.mk (TwoNext.of h2.out hN1.out hN2)
  clear hB hN1 hN2
  generalize (rawR 32 l e).2.2 = e2 at hT ⊢
  generalize (rawR 32 l e).2.1 = l2 at hT ⊢
  generalize (rawR 32 l e).1 = v2
  go_wp2_with fail
  refine region_go (C := fun w' => Two w' br bx l2 e2) rfl ?_
  have hTd : Box (Two w2.drew br bx l2 e2) := ⟨⟨hT.out.two.r, hT.out.two.x⟩⟩
  have hCd : Box (Chg (fun k => k = br ∨ k = bx) wb w2.drew) := ⟨hT.out.chg.drew⟩
  clear hT
  generalize w2.drew = wd at hTd hCd ⊢
  have hz := mk_size l2
  refine go_calms [0, 1, 2, 3, 4, 5, 6, 7, 8, 9, 11, 12, 13] 15 rfl (by kernel_rfl) (by kernel_rfl) (by kernel_rfl) hTd.out ?_
  simp [nth]
  repeat (go_big_quiet_step (first | exact fun _ => rfl | rfl))
  refine wpQuiet_nil ?_
  refine go_calms [14] 14 rfl (by kernel_rfl) (by kernel_rfl) (by kernel_rfl) hTd.out ?_
  simp [nth]
  refine quiet_any rfl (.string (btx l2)) (fun w' hw' => by have c9 : w'.cell? ⟨bx, 0, none⟩ = some (.string (btx l2)) := hw'.x.cell 0; go_simp) ?_
  refine wpQuiet_nil ?_
  refine go_calm 15 (by kernel_rfl) rfl (by kernel_rfl) (by kernel_rfl) hTd.out (yields (v := .int .i64 (l2.length : Int)) rfl (fun w' hw' => by go_simp)) ?_
  simp only [Act.put, List.setIfInBounds_toArray, List.set_cons_succ, List.set_cons_zero]
  refine go_forced 10 (by kernel_rfl) (goOp_wp 10 rfl rfl (fun K hK => ?_))
  go_simp
  refine (left_any br l2 e2 wd hTd.out.r).mono ?_
  rintro r w' ⟨rfl, rfl⟩
  refine hK _ _ hTd.out ?_
  clear hK K
  refine go_calms [16, 17, 18, 19, 21, 22, 23] 5 rfl (by kernel_rfl) (by kernel_rfl) (by kernel_rfl) hTd.out ?_
  simp [nth]
  repeat (go_big_quiet_step (first | exact fun _ => rfl | rfl))
  refine wpQuiet_nil ?_
  refine go_calms [24] 4 rfl (by kernel_rfl) (by kernel_rfl) (by kernel_rfl) hTd.out ?_
  simp [nth]
  refine quiet_any rfl (.int .i64 e2) (fun w' hw' => by have c9 : w'.cell? ⟨bx, 1, none⟩ = some (.int .i64 e2) := hw'.x.cell 1; go_simp) ?_
  refine wpQuiet_nil ?_
  simp only [Act.put, List.setIfInBounds_toArray, List.set_cons_succ, List.set_cons_zero]
  refine go_forced 20 (by kernel_rfl) (goOp_wp 20 rfl rfl (fun K hK => ?_))
  go_simp
  refine (err_any br l2 e2 wd hTd.out.r).mono ?_
  rintro r w' ⟨rfl, rfl⟩
  refine hK _ _ hTd.out ?_
  clear hK K
  refine go_calms [25, 26, 27] 0 rfl (by kernel_rfl) (by kernel_rfl) (by kernel_rfl) hTd.out ?_
  simp [nth]
  repeat (go_big_quiet_step (first | exact fun _ => rfl | rfl))
  refine wpQuiet_nil ?_
  refine go_done (by kernel_rfl) ?_
  go_wp2_with fail
  go_returns
  exact ⟨rfl, l2, e2, ⟨hTd.out, (hC0.out.mono fun _ _ h => h.elim).trans hCd.out fun _ _ h => h⟩⟩
end Go.Proofs.Ytnfcgjefliccgaa
