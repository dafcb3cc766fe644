/- Walk of one call of both readers: the drawn ones, and a failure. -/
import Derived.Test.YtnfcgjefliccgaaPkR
namespace Go.Proofs.Ytnfcgjefliccgaa
open Go.RowKit

set_option maxHeartbeats 3200000 in
set_option maxRecDepth 100000 in
theorem read_4 (k : UInt8) (n : Int) (s : ByteArray) (br bx : Nat) (l : List UInt8) (e : Int) (w : World) (h : Two w br bx l e) (hm : k.toNat % 8 = 4) :
    Calls Try.prog 13 #[.pointer (some ⟨br, 0, none⟩), .pointer (some ⟨bx, 0, none⟩), .agg #[.int .u8 (k.toNat : Int), .int .i64 n, .string s]] w
      fun r w' => r = .returned (.bool true) ∧ ∃ l' e', TwoNext w br bx l' e' w' := by
  obtain ⟨wb, hwb⟩ : ∃ wb, w.alloc (.cells #[.int .u8 (k.toNat : Int), .int .i64 n, .string s] 31) = wb := ⟨_, rfl⟩
  have hC0 : Chg (fun _ => False) w wb := by rw [← hwb]; exact (Chg.refl _ _).alloc _
  have hNb := Blk.new w [.int .u8 (k.toNat : Int), .int .i64 n, .string s] 31
  rw [hwb] at hNb
  have h2 : Two wb br bx l e := ⟨h.r.chg hC0 (fun h => h), h.x.chg hC0 (fun h => h)⟩
  obtain ⟨bo, hbo⟩ : ∃ bo, w.heap.size = bo := ⟨_, rfl⟩
  rw [hbo] at hNb
  have c0 : wb.cell? ⟨bo, 0, none⟩ = some (.int .u8 (k.toNat : Int)) := hNb.cell 0
  have c1 : wb.cell? ⟨bo, 1, none⟩ = some (.int .i64 n) := hNb.cell 1
  have hkm : (k.toNat : Int).tmod 8 = (4 : Int) := by rw [Int.tmod_eq_emod_of_nonneg (by omega)]; omega
  have hor : bo ≠ br := by have := h.r.lt; omega
  have hox : bo ≠ bx := by have := h.x.lt; omega
  replace hm := Box.mk hm
  replace hC0 := Box.mk hC0
  have hA := rtext_any br l e n wb h2.r
  replace h2 := Box.mk h2
  replace h := Box.mk h
  replace hA := Box.mk hA
  replace hNb := Box.mk hNb
  replace hor := Box.mk hor
  replace hox := Box.mk hox
  go_enter Try.func13, Try.ntmps13
  go_wp2_with fail
  have hBd : Box (Blk wb.drew bo [.int .u8 (k.toNat : Int), .int .i64 n, .string s] 31) := ⟨hNb.out⟩
  have h2d : Box (Two wb.drew br bx l e) := ⟨⟨h2.out.r, h2.out.x⟩⟩
  have hCw : Box (Chg (fun _ => False) w wb.drew) := ⟨hC0.out.drew⟩
  clear hA hC0 hNb h2 c0 c1
  refine region_go (C := fun w' => Blk w' bo [.int .u8 (k.toNat : Int), .int .i64 n, .string s] 31) rfl ?_
  generalize wb.drew = wd at hBd h2d hCw ⊢
  refine go_calms [0, 1] 8 rfl (by kernel_rfl) (by kernel_rfl) (by kernel_rfl) hBd.out ?_
  simp [nth]
  repeat (go_big_quiet_step (first | exact fun _ => rfl | rfl))
  refine wpQuiet_nil ?_
  refine go_calms [2] 7 rfl (by kernel_rfl) (by kernel_rfl) (by kernel_rfl) hBd.out ?_
  simp [nth]
  refine quiet_any rfl (.int .i64 n) (fun w' hw' => by have c9 : w'.cell? ⟨bo, 1, none⟩ = some (.int .i64 n) := hw'.cell 1; go_simp) ?_
  refine wpQuiet_nil ?_
  simp only [Act.put, List.setIfInBounds_toArray, List.set_cons_succ, List.set_cons_zero]
  refine go_calms [4, 5] 5 rfl (by kernel_rfl) (by kernel_rfl) (by kernel_rfl) hBd.out ?_
  simp [nth]
  repeat (go_big_quiet_step (first | exact fun _ => rfl | rfl))
  refine wpQuiet_nil ?_
  refine go_calms [6] 4 rfl (by kernel_rfl) (by kernel_rfl) (by kernel_rfl) hBd.out ?_
  simp [nth]
  refine quiet_any rfl (.int .i64 n) (fun w' hw' => by have c9 : w'.cell? ⟨bo, 1, none⟩ = some (.int .i64 n) := hw'.cell 1; go_simp) ?_
  refine wpQuiet_nil ?_
  simp only [Act.put, List.setIfInBounds_toArray, List.set_cons_succ, List.set_cons_zero]
  refine go_forced 3 (by kernel_rfl) (goOp_wp 3 rfl rfl (fun K hK => ?_))
  go_simp
  refine (rtext_any br l e n wd h2d.out.r).mono ?_
  rintro r w1 ⟨rfl, hN1⟩
  have hB1 := Box.mk (hN1.chg.blk hBd.out hor.out)
  refine hK _ _ hB1.out ?_
  clear hK K
  have hx1 := Box.mk (h2d.out.x.chg hN1.chg (Ne.symm h2d.out.ne))
  replace hN1 := Box.mk hN1
  refine go_forced 7 (by kernel_rfl) (goOp_wp 7 rfl rfl (fun K hK => ?_))
  go_simp
  refine (xtext_any bx l e n w1 hx1.out).mono ?_
  rintro r w2 ⟨rfl, hN2⟩
  have hB2 := Box.mk (hN2.chg.blk hB1.out hox.out)
  refine hK _ _ hB2.out ?_
  clear hK K
  have hT := Box.mk (TwoNext.of h2d.out hN1.out hN2)
  clear hN1 hN2 hx1 hB1 hBd
  generalize (textR n l e).2.2 = e2 at hT ⊢
  generalize (textR n l e).2.1 = l2 at hT ⊢
  generalize (textR n l e).1 = v2
  refine go_calms [8, 9] 0 rfl (by kernel_rfl) (by kernel_rfl) (by kernel_rfl) hB2.out ?_
  simp [nth]
  repeat (go_big_quiet_step (first | exact fun _ => rfl | rfl))
  refine wpQuiet_nil ?_
  refine go_done (by kernel_rfl) ?_
  clear hB2
  go_wp2_with fail
  refine region_go (C := fun w' => Two w' br bx l2 e2) rfl ?_
  have hTd : Box (Two w2.drew br bx l2 e2) := ⟨⟨hT.out.two.r, hT.out.two.x⟩⟩
  have hCd : Box (Chg (fun k => k = br ∨ k = bx) wd w2.drew) := ⟨hT.out.chg.drew⟩
  clear hT
  generalize w2.drew = we at hTd hCd ⊢
  have hz := mk_size l2
  refine go_calms [0, 1, 2, 3, 4, 5, 6, 7, 8, 9, 11, 12, 13] 15 rfl (by kernel_rfl) (by kernel_rfl) (by kernel_rfl) hTd.out ?_
  simp [nth]
  repeat (go_big_quiet_step (first | exact fun _ => rfl | rfl))
  refine wpQuiet_nil ?_
  refine go_calms [14] 14 rfl (by kernel_rfl) (by kernel_rfl) (by kernel_rfl) hTd.out ?_
  simp [nth]
  refine quiet_any rfl (.string (btx l2)) (fun w' hw' => by have c9 : w'.cell? ⟨bx, 0, none⟩ = some (.string (btx l2)) := hw'.x.cell 0; go_simp) ?_
  refine wpQuiet_nil ?_
  refine go_calm 15 (by kernel_rfl) rfl (by kernel_rfl) (by kernel_rfl) hTd.out (yields (v := .int .i64 (l2.length : Int)) rfl (fun w' hw' => by go_simp)) ?_
  simp only [Act.put, List.setIfInBounds_toArray, List.set_cons_succ, List.set_cons_zero]
  refine go_forced 10 (by kernel_rfl) (goOp_wp 10 rfl rfl (fun K hK => ?_))
  go_simp
  refine (left_any br l2 e2 we hTd.out.r).mono ?_
  rintro r w' ⟨rfl, rfl⟩
  refine hK _ _ hTd.out ?_
  clear hK K
  refine go_calms [16, 17, 18, 19, 21, 22, 23] 5 rfl (by kernel_rfl) (by kernel_rfl) (by kernel_rfl) hTd.out ?_
  simp [nth]
  repeat (go_big_quiet_step (first | exact fun _ => rfl | rfl))
  refine wpQuiet_nil ?_
  refine go_calms [24] 4 rfl (by kernel_rfl) (by kernel_rfl) (by kernel_rfl) hTd.out ?_
  simp [nth]
  refine quiet_any rfl (.int .i64 e2) (fun w' hw' => by have c9 : w'.cell? ⟨bx, 1, none⟩ = some (.int .i64 e2) := hw'.x.cell 1; go_simp) ?_
  refine wpQuiet_nil ?_
  simp only [Act.put, List.setIfInBounds_toArray, List.set_cons_succ, List.set_cons_zero]
  refine go_forced 20 (by kernel_rfl) (goOp_wp 20 rfl rfl (fun K hK => ?_))
  go_simp
  refine (err_any br l2 e2 we hTd.out.r).mono ?_
  rintro r w' ⟨rfl, rfl⟩
  refine hK _ _ hTd.out ?_
  clear hK K
  refine go_calms [25, 26, 27] 0 rfl (by kernel_rfl) (by kernel_rfl) (by kernel_rfl) hTd.out ?_
  simp [nth]
  repeat (go_big_quiet_step (first | exact fun _ => rfl | rfl))
  refine wpQuiet_nil ?_
  refine go_done (by kernel_rfl) ?_
  go_wp2_with fail
  go_returns
  exact ⟨rfl, l2, e2, ⟨hTd.out, (hCw.out.mono fun _ _ h => h.elim).trans hCd.out fun _ _ h => h⟩⟩
set_option maxHeartbeats 3200000 in
set_option maxRecDepth 100000 in
theorem read_6 (k : UInt8) (n : Int) (s : ByteArray) (br bx : Nat) (l : List UInt8) (e : Int) (w : World) (h : Two w br bx l e) (hm : k.toNat % 8 = 6) :
    Calls Try.prog 13 #[.pointer (some ⟨br, 0, none⟩), .pointer (some ⟨bx, 0, none⟩), .agg #[.int .u8 (k.toNat : Int), .int .i64 n, .string s]] w
      fun r w' => r = .returned (.bool true) ∧ ∃ l' e', TwoNext w br bx l' e' w' := by
  obtain ⟨wb, hwb⟩ : ∃ wb, w.alloc (.cells #[.int .u8 (k.toNat : Int), .int .i64 n, .string s] 31) = wb := ⟨_, rfl⟩
  have hC0 : Chg (fun _ => False) w wb := by rw [← hwb]; exact (Chg.refl _ _).alloc _
  have hNb := Blk.new w [.int .u8 (k.toNat : Int), .int .i64 n, .string s] 31
  rw [hwb] at hNb
  have h2 : Two wb br bx l e := ⟨h.r.chg hC0 (fun h => h), h.x.chg hC0 (fun h => h)⟩
  obtain ⟨bo, hbo⟩ : ∃ bo, w.heap.size = bo := ⟨_, rfl⟩
  rw [hbo] at hNb
  have c0 : wb.cell? ⟨bo, 0, none⟩ = some (.int .u8 (k.toNat : Int)) := hNb.cell 0
  have c1 : wb.cell? ⟨bo, 1, none⟩ = some (.int .i64 n) := hNb.cell 1
  have hkm : (k.toNat : Int).tmod 8 = (6 : Int) := by rw [Int.tmod_eq_emod_of_nonneg (by omega)]; omega
  have hor : bo ≠ br := by have := h.r.lt; omega
  have hox : bo ≠ bx := by have := h.x.lt; omega
  replace hm := Box.mk hm
  replace hC0 := Box.mk hC0
  have hA := rraw_any br l e n wb h2.r
  replace h2 := Box.mk h2
  replace h := Box.mk h
  replace hA := Box.mk hA
  replace hNb := Box.mk hNb
  replace hor := Box.mk hor
  replace hox := Box.mk hox
  go_enter Try.func13, Try.ntmps13
  go_wp2_with fail
  have hBd : Box (Blk wb.drew bo [.int .u8 (k.toNat : Int), .int .i64 n, .string s] 31) := ⟨hNb.out⟩
  have h2d : Box (Two wb.drew br bx l e) := ⟨⟨h2.out.r, h2.out.x⟩⟩
  have hCw : Box (Chg (fun _ => False) w wb.drew) := ⟨hC0.out.drew⟩
  clear hA hC0 hNb h2 c0 c1
  refine region_go (C := fun w' => Blk w' bo [.int .u8 (k.toNat : Int), .int .i64 n, .string s] 31) rfl ?_
  generalize wb.drew = wd at hBd h2d hCw ⊢
  refine go_calms [0, 1] 8 rfl (by kernel_rfl) (by kernel_rfl) (by kernel_rfl) hBd.out ?_
  simp [nth]
  repeat (go_big_quiet_step (first | exact fun _ => rfl | rfl))
  refine wpQuiet_nil ?_
  refine go_calms [2] 7 rfl (by kernel_rfl) (by kernel_rfl) (by kernel_rfl) hBd.out ?_
  simp [nth]
  refine quiet_any rfl (.int .i64 n) (fun w' hw' => by have c9 : w'.cell? ⟨bo, 1, none⟩ = some (.int .i64 n) := hw'.cell 1; go_simp) ?_
  refine wpQuiet_nil ?_
  simp only [Act.put, List.setIfInBounds_toArray, List.set_cons_succ, List.set_cons_zero]
  refine go_calms [4, 5] 5 rfl (by kernel_rfl) (by kernel_rfl) (by kernel_rfl) hBd.out ?_
  simp [nth]
  repeat (go_big_quiet_step (first | exact fun _ => rfl | rfl))
  refine wpQuiet_nil ?_
  refine go_calms [6] 4 rfl (by kernel_rfl) (by kernel_rfl) (by kernel_rfl) hBd.out ?_
  simp [nth]
  refine quiet_any rfl (.int .i64 n) (fun w' hw' => by have c9 : w'.cell? ⟨bo, 1, none⟩ = some (.int .i64 n) := hw'.cell 1; go_simp) ?_
  refine wpQuiet_nil ?_
  simp only [Act.put, List.setIfInBounds_toArray, List.set_cons_succ, List.set_cons_zero]
  refine go_forced 3 (by kernel_rfl) (goOp_wp 3 rfl rfl (fun K hK => ?_))
  go_simp
  refine (rraw_any br l e n wd h2d.out.r).mono ?_
  rintro r w1 ⟨rfl, hN1⟩
  have hB1 := Box.mk (hN1.chg.blk hBd.out hor.out)
  refine hK _ _ hB1.out ?_
  clear hK K
  have hx1 := Box.mk (h2d.out.x.chg hN1.chg (Ne.symm h2d.out.ne))
  replace hN1 := Box.mk hN1
  refine go_forced 7 (by kernel_rfl) (goOp_wp 7 rfl rfl (fun K hK => ?_))
  go_simp
  refine (xraw_any bx l e n w1 hx1.out).mono ?_
  rintro r w2 ⟨rfl, hN2⟩
  have hB2 := Box.mk (hN2.chg.blk hB1.out hox.out)
  refine hK _ _ hB2.out ?_
  clear hK K
  have hT := Box.mk (TwoNext.of h2d.out hN1.out hN2)
  clear hN1 hN2 hx1 hB1 hBd
  generalize (rawR n l e).2.2 = e2 at hT ⊢
  generalize (rawR n l e).2.1 = l2 at hT ⊢
  generalize (rawR n l e).1 = v2
  refine go_calms [8, 9] 0 rfl (by kernel_rfl) (by kernel_rfl) (by kernel_rfl) hB2.out ?_
  simp [nth]
  repeat (go_big_quiet_step (first | exact fun _ => rfl | rfl))
  refine wpQuiet_nil ?_
  refine go_done (by kernel_rfl) ?_
  clear hB2
  go_wp2_with fail
  refine region_go (C := fun w' => Two w' br bx l2 e2) rfl ?_
  have hTd : Box (Two w2.drew br bx l2 e2) := ⟨⟨hT.out.two.r, hT.out.two.x⟩⟩
  have hCd : Box (Chg (fun k => k = br ∨ k = bx) wd w2.drew) := ⟨hT.out.chg.drew⟩
  clear hT
  generalize w2.drew = we at hTd hCd ⊢
  have hz := mk_size l2
  refine go_calms [0, 1, 2, 3, 4, 5, 6, 7, 8, 9, 11, 12, 13] 15 rfl (by kernel_rfl) (by kernel_rfl) (by kernel_rfl) hTd.out ?_
  simp [nth]
  repeat (go_big_quiet_step (first | exact fun _ => rfl | rfl))
  refine wpQuiet_nil ?_
  refine go_calms [14] 14 rfl (by kernel_rfl) (by kernel_rfl) (by kernel_rfl) hTd.out ?_
  simp [nth]
  refine quiet_any rfl (.string (btx l2)) (fun w' hw' => by have c9 : w'.cell? ⟨bx, 0, none⟩ = some (.string (btx l2)) := hw'.x.cell 0; go_simp) ?_
  refine wpQuiet_nil ?_
  refine go_calm 15 (by kernel_rfl) rfl (by kernel_rfl) (by kernel_rfl) hTd.out (yields (v := .int .i64 (l2.length : Int)) rfl (fun w' hw' => by go_simp)) ?_
  simp only [Act.put, List.setIfInBounds_toArray, List.set_cons_succ, List.set_cons_zero]
  refine go_forced 10 (by kernel_rfl) (goOp_wp 10 rfl rfl (fun K hK => ?_))
  go_simp
  refine (left_any br l2 e2 we hTd.out.r).mono ?_
  rintro r w' ⟨rfl, rfl⟩
  refine hK _ _ hTd.out ?_
  clear hK K
  refine go_calms [16, 17, 18, 19, 21, 22, 23] 5 rfl (by kernel_rfl) (by kernel_rfl) (by kernel_rfl) hTd.out ?_
  simp [nth]
  repeat (go_big_quiet_step (first | exact fun _ => rfl | rfl))
  refine wpQuiet_nil ?_
  refine go_calms [24] 4 rfl (by kernel_rfl) (by kernel_rfl) (by kernel_rfl) hTd.out ?_
  simp [nth]
  refine quiet_any rfl (.int .i64 e2) (fun w' hw' => by have c9 : w'.cell? ⟨bx, 1, none⟩ = some (.int .i64 e2) := hw'.x.cell 1; go_simp) ?_
  refine wpQuiet_nil ?_
  simp only [Act.put, List.setIfInBounds_toArray, List.set_cons_succ, List.set_cons_zero]
  refine go_forced 20 (by kernel_rfl) (goOp_wp 20 rfl rfl (fun K hK => ?_))
  go_simp
  refine (err_any br l2 e2 we hTd.out.r).mono ?_
  rintro r w' ⟨rfl, rfl⟩
  refine hK _ _ hTd.out ?_
  clear hK K
  refine go_calms [25, 26, 27] 0 rfl (by kernel_rfl) (by kernel_rfl) (by kernel_rfl) hTd.out ?_
  simp [nth]
  repeat (go_big_quiet_step (first | exact fun _ => rfl | rfl))
  refine wpQuiet_nil ?_
  refine go_done (by kernel_rfl) ?_
  go_wp2_with fail
  go_returns
  exact ⟨rfl, l2, e2, ⟨hTd.out, (hCw.out.mono fun _ _ h => h.elim).trans hCd.out fun _ _ h => h⟩⟩
set_option maxHeartbeats 3200000 in
set_option maxRecDepth 100000 in
theorem read_7 (k : UInt8) (n : Int) (s : ByteArray) (br bx : Nat) (l : List UInt8) (e : Int) (w : World) (h : Two w br bx l e) (hm : k.toNat % 8 = 7) :
    Calls Try.prog 13 #[.pointer (some ⟨br, 0, none⟩), .pointer (some ⟨bx, 0, none⟩), .agg #[.int .u8 (k.toNat : Int), .int .i64 n, .string s]] w
      fun r w' => r = .returned (.bool true) ∧ ∃ l' e', TwoNext w br bx l' e' w' := by
  obtain ⟨wb, hwb⟩ : ∃ wb, w.alloc (.cells #[.int .u8 (k.toNat : Int), .int .i64 n, .string s] 31) = wb := ⟨_, rfl⟩
  have hC0 : Chg (fun _ => False) w wb := by rw [← hwb]; exact (Chg.refl _ _).alloc _
  have hNb := Blk.new w [.int .u8 (k.toNat : Int), .int .i64 n, .string s] 31
  rw [hwb] at hNb
  have h2 : Two wb br bx l e := ⟨h.r.chg hC0 (fun h => h), h.x.chg hC0 (fun h => h)⟩
  obtain ⟨bo, hbo⟩ : ∃ bo, w.heap.size = bo := ⟨_, rfl⟩
  rw [hbo] at hNb
  have c0 : wb.cell? ⟨bo, 0, none⟩ = some (.int .u8 (k.toNat : Int)) := hNb.cell 0
  have c1 : wb.cell? ⟨bo, 1, none⟩ = some (.int .i64 n) := hNb.cell 1
  have hkm : (k.toNat : Int).tmod 8 = (7 : Int) := by rw [Int.tmod_eq_emod_of_nonneg (by omega)]; omega
  have hor : bo ≠ br := by have := h.r.lt; omega
  have hox : bo ≠ bx := by have := h.x.lt; omega
  replace hm := Box.mk hm
  replace hC0 := Box.mk hC0
  replace h2 := Box.mk h2
  replace h := Box.mk h
  replace hNb := Box.mk hNb
  replace hor := Box.mk hor
  replace hox := Box.mk hox
  go_enter Try.func13, Try.ntmps13
  go_wp2_with fail
  refine (fail_any br l e _ wb h2.out.r).mono ?_
  rintro r w1 ⟨rfl, hN1⟩
  have hx1 := h2.out.x.chg hN1.chg (Ne.symm h2.out.ne)
  have k1 : w1.cell? ⟨bo, 1, none⟩ = some (.int .i64 n) := (hN1.chg.blk hNb.out hor.out).cell 1
  replace hx1 := Box.mk hx1
  replace hN1 := Box.mk hN1
  go_wp2_with fail
  refine (xfail_any bx l e _ w1 hx1.out).mono ?_
  rintro r w2 ⟨rfl, hN2⟩
  have hT := Box.mk (TwoNext.of h2.out hN1.out hN2)
  clear hN1 hN2 hx1
  obtain ⟨e2, he2⟩ : ∃ e2, failE e (wrap64 ((IntKind.u64.wrap n).tmod 5)) = e2 := ⟨_, rfl⟩
  rw [he2] at hT
  clear he2
  go_wp2_with fail
  refine region_go (C := fun w' => Two w' br bx l e2) rfl ?_
  have hTd : Box (Two w2.drew br bx l e2) := ⟨⟨hT.out.two.r, hT.out.two.x⟩⟩
  have hCd : Box (Chg (fun k => k = br ∨ k = bx) wb w2.drew) := ⟨hT.out.chg.drew⟩
  clear hT
  generalize w2.drew = wd at hTd hCd ⊢
  have hz := mk_size l
  refine go_calms [0, 1, 2, 3, 4, 5, 6, 7, 8, 9, 11, 12, 13] 15 rfl (by kernel_rfl) (by kernel_rfl) (by kernel_rfl) hTd.out ?_
  simp [nth]
  repeat (go_big_quiet_step (first | exact fun _ => rfl | rfl))
  refine wpQuiet_nil ?_
  refine go_calms [14] 14 rfl (by kernel_rfl) (by kernel_rfl) (by kernel_rfl) hTd.out ?_
  simp [nth]
  refine quiet_any rfl (.string (btx l)) (fun w' hw' => by have c9 : w'.cell? ⟨bx, 0, none⟩ = some (.string (btx l)) := hw'.x.cell 0; go_simp) ?_
  refine wpQuiet_nil ?_
  refine go_calm 15 (by kernel_rfl) rfl (by kernel_rfl) (by kernel_rfl) hTd.out (yields (v := .int .i64 (l.length : Int)) rfl (fun w' hw' => by go_simp)) ?_
  simp only [Act.put, List.setIfInBounds_toArray, List.set_cons_succ, List.set_cons_zero]
  refine go_forced 10 (by kernel_rfl) (goOp_wp 10 rfl rfl (fun K hK => ?_))
  go_simp
  refine (left_any br l e2 wd hTd.out.r).mono ?_
  rintro r w' ⟨rfl, rfl⟩
  refine hK _ _ hTd.out ?_
  clear hK K
  refine go_calms [16, 17, 18, 19, 21, 22, 23] 5 rfl (by kernel_rfl) (by kernel_rfl) (by kernel_rfl) hTd.out ?_
  simp [nth]
  repeat (go_big_quiet_step (first | exact fun _ => rfl | rfl))
  refine wpQuiet_nil ?_
  refine go_calms [24] 4 rfl (by kernel_rfl) (by kernel_rfl) (by kernel_rfl) hTd.out ?_
  simp [nth]
  refine quiet_any rfl (.int .i64 e2) (fun w' hw' => by have c9 : w'.cell? ⟨bx, 1, none⟩ = some (.int .i64 e2) := hw'.x.cell 1; go_simp) ?_
  refine wpQuiet_nil ?_
  simp only [Act.put, List.setIfInBounds_toArray, List.set_cons_succ, List.set_cons_zero]
  refine go_forced 20 (by kernel_rfl) (goOp_wp 20 rfl rfl (fun K hK => ?_))
  go_simp
  refine (err_any br l e2 wd hTd.out.r).mono ?_
  rintro r w' ⟨rfl, rfl⟩
  refine hK _ _ hTd.out ?_
  clear hK K
  refine go_calms [25, 26, 27] 0 rfl (by kernel_rfl) (by kernel_rfl) (by kernel_rfl) hTd.out ?_
  simp [nth]
  repeat (go_big_quiet_step (first | exact fun _ => rfl | rfl))
  refine wpQuiet_nil ?_
  refine go_done (by kernel_rfl) ?_
  go_wp2_with fail
  go_returns
  exact ⟨rfl, l, e2, ⟨hTd.out, (hC0.out.mono fun _ _ h => h.elim).trans hCd.out fun _ _ h => h⟩⟩
end Go.Proofs.Ytnfcgjefliccgaa
