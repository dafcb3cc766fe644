/- Walk of one call of both writers, the first one nil. -/
import Derived.Test.YtnfcgjefliccgaaPkY
namespace Go.Proofs.Ytnfcgjefliccgaa
open Go.RowKit

set_option maxHeartbeats 1600000 in
set_option maxRecDepth 100000 in
theorem layn_0 (k : UInt8) (n : Int) (s : ByteArray)  (bx : Nat) (x : Value) (lx : List UInt8) (badx : Bool) (w : World) (h : WAt w bx 28 x lx badx) (hm : k.toNat % 6 = 0) (hn : -9223372036854775808 ≤ n ∧ n ≤ 9223372036854775807) (hx : lx.length ≤ 35184372088000) :
    Calls Try.prog 8 #[.pointer none, .pointer (some ⟨bx, 0, none⟩), .agg #[.int .u8 (k.toNat : Int), .int .i64 n, .string s]] w
      fun r w' => r = .returned (.tuple #[]) ∧ WNext w bx 28 x (laysX (opOk k n s) (opL k n s) lx) (badx || !opOk k n s) w' := by
  have hok : opOk k n s = fits n 1 := by simp [opOk, hm]
  have hL : opL k n s = beN n.toNat 1 := by simp [opL, hm]
  rw [hok, hL]
  obtain ⟨wb, hwb⟩ : ∃ wb, w.alloc (.cells #[.int .u8 (k.toNat : Int), .int .i64 n, .string s] 31) = wb := ⟨_, rfl⟩
  have hC0 : Chg (fun _ => False) w wb := by rw [← hwb]; exact (Chg.refl _ _).alloc _
  have hNb := Blk.new w [.int .u8 (k.toNat : Int), .int .i64 n, .string s] 31
  rw [hwb] at hNb
  have h2 : WAt wb bx 28 x lx badx := h.chg hC0 id (fun _ _ h => h)
  obtain ⟨bo, hbw⟩ : ∃ bo, w.heap.size = bo := ⟨_, rfl⟩
  rw [hbw] at hNb
  have c0 : wb.cell? ⟨bo, 0, none⟩ = some (.int .u8 (k.toNat : Int)) := hNb.cell 0
  have c1 : wb.cell? ⟨bo, 1, none⟩ = some (.int .i64 n) := hNb.cell 1
  have hkm : (k.toNat : Int).tmod 6 = (0 : Int) := by rw [Int.tmod_eq_emod_of_nonneg (by omega)]; omega
  replace hC0 := Box.mk hC0
  replace h2 := Box.mk h2
  replace h := Box.mk h
  replace hNb := Box.mk hNb
  clear hok hL hm
  go_enter Try.func8, Try.ntmps8
  have hB := Box.mk (xnum_any bx x lx badx n 1 wb (by omega) hn h2.out (by omega))
  go_wp2_with fail
  refine (byte_nil n wb).mono ?_
  rintro r w' ⟨rfl, rfl⟩
  go_wp2_with fail
  refine hB.out.mono ?_
  rintro r w2 ⟨rfl, hN2⟩
  obtain ⟨x2, a2, q2, p2⟩ := hN2.out
  have hsz := hC0.out.size
  have hR := WNext.mk ⟨x2, a2, (hC0.out.mono (fun _ _ h => h.elim)).trans q2 (fun _ _ h => h), fun k hk => (p2 k hk).imp id (fun e => Nat.le_trans hsz e)⟩
  replace hR := Box.mk hR
  clear hN2 a2 q2 p2 hB
  go_wp2_with fail
  go_returns
  exact ⟨rfl, hR.out⟩
set_option maxHeartbeats 1600000 in
set_option maxRecDepth 100000 in
theorem layn_1 (k : UInt8) (n : Int) (s : ByteArray)  (bx : Nat) (x : Value) (lx : List UInt8) (badx : Bool) (w : World) (h : WAt w bx 28 x lx badx) (hm : k.toNat % 6 = 1) (hn : -9223372036854775808 ≤ n ∧ n ≤ 9223372036854775807) (hx : lx.length ≤ 35184372088000) :
    Calls Try.prog 8 #[.pointer none, .pointer (some ⟨bx, 0, none⟩), .agg #[.int .u8 (k.toNat : Int), .int .i64 n, .string s]] w
      fun r w' => r = .returned (.tuple #[]) ∧ WNext w bx 28 x (laysX (opOk k n s) (opL k n s) lx) (badx || !opOk k n s) w' := by
  have hok : opOk k n s = fits n 2 := by simp [opOk, hm]
  have hL : opL k n s = beN n.toNat 2 := by simp [opL, hm]
  rw [hok, hL]
  obtain ⟨wb, hwb⟩ : ∃ wb, w.alloc (.cells #[.int .u8 (k.toNat : Int), .int .i64 n, .string s] 31) = wb := ⟨_, rfl⟩
  have hC0 : Chg (fun _ => False) w wb := by rw [← hwb]; exact (Chg.refl _ _).alloc _
  have hNb := Blk.new w [.int .u8 (k.toNat : Int), .int .i64 n, .string s] 31
  rw [hwb] at hNb
  have h2 : WAt wb bx 28 x lx badx := h.chg hC0 id (fun _ _ h => h)
  obtain ⟨bo, hbw⟩ : ∃ bo, w.heap.size = bo := ⟨_, rfl⟩
  rw [hbw] at hNb
  have c0 : wb.cell? ⟨bo, 0, none⟩ = some (.int .u8 (k.toNat : Int)) := hNb.cell 0
  have c1 : wb.cell? ⟨bo, 1, none⟩ = some (.int .i64 n) := hNb.cell 1
  have hkm : (k.toNat : Int).tmod 6 = (1 : Int) := by rw [Int.tmod_eq_emod_of_nonneg (by omega)]; omega
  replace hC0 := Box.mk hC0
  replace h2 := Box.mk h2
  replace h := Box.mk h
  replace hNb := Box.mk hNb
  clear hok hL hm
  go_enter Try.func8, Try.ntmps8
  have hB := Box.mk (xnum_any bx x lx badx n 2 wb (by omega) hn h2.out (by omega))
  go_wp2_with fail
  refine (two_nil n wb).mono ?_
  rintro r w' ⟨rfl, rfl⟩
  go_wp2_with fail
  refine hB.out.mono ?_
  rintro r w2 ⟨rfl, hN2⟩
  obtain ⟨x2, a2, q2, p2⟩ := hN2.out
  have hsz := hC0.out.size
  have hR := WNext.mk ⟨x2, a2, (hC0.out.mono (fun _ _ h => h.elim)).trans q2 (fun _ _ h => h), fun k hk => (p2 k hk).imp id (fun e => Nat.le_trans hsz e)⟩
  replace hR := Box.mk hR
  clear hN2 a2 q2 p2 hB
  go_wp2_with fail
  go_returns
  exact ⟨rfl, hR.out⟩
set_option maxHeartbeats 1600000 in
set_option maxRecDepth 100000 in
theorem layn_2 (k : UInt8) (n : Int) (s : ByteArray)  (bx : Nat) (x : Value) (lx : List UInt8) (badx : Bool) (w : World) (h : WAt w bx 28 x lx badx) (hm : k.toNat % 6 = 2) (hn : -9223372036854775808 ≤ n ∧ n ≤ 9223372036854775807) (hx : lx.length ≤ 35184372088000) :
    Calls Try.prog 8 #[.pointer none, .pointer (some ⟨bx, 0, none⟩), .agg #[.int .u8 (k.toNat : Int), .int .i64 n, .string s]] w
      fun r w' => r = .returned (.tuple #[]) ∧ WNext w bx 28 x (laysX (opOk k n s) (opL k n s) lx) (badx || !opOk k n s) w' := by
  have hok : opOk k n s = fits n 4 := by simp [opOk, hm]
  have hL : opL k n s = beN n.toNat 4 := by simp [opL, hm]
  rw [hok, hL]
  obtain ⟨wb, hwb⟩ : ∃ wb, w.alloc (.cells #[.int .u8 (k.toNat : Int), .int .i64 n, .string s] 31) = wb := ⟨_, rfl⟩
  have hC0 : Chg (fun _ => False) w wb := by rw [← hwb]; exact (Chg.refl _ _).alloc _
  have hNb := Blk.new w [.int .u8 (k.toNat : Int), .int .i64 n, .string s] 31
  rw [hwb] at hNb
  have h2 : WAt wb bx 28 x lx badx := h.chg hC0 id (fun _ _ h => h)
  obtain ⟨bo, hbw⟩ : ∃ bo, w.heap.size = bo := ⟨_, rfl⟩
  rw [hbw] at hNb
  have c0 : wb.cell? ⟨bo, 0, none⟩ = some (.int .u8 (k.toNat : Int)) := hNb.cell 0
  have c1 : wb.cell? ⟨bo, 1, none⟩ = some (.int .i64 n) := hNb.cell 1
  have hkm : (k.toNat : Int).tmod 6 = (2 : Int) := by rw [Int.tmod_eq_emod_of_nonneg (by omega)]; omega
  replace hC0 := Box.mk hC0
  replace h2 := Box.mk h2
  replace h := Box.mk h
  replace hNb := Box.mk hNb
  clear hok hL hm
  go_enter Try.func8, Try.ntmps8
  have hB := Box.mk (xnum_any bx x lx badx n 4 wb (by omega) hn h2.out (by omega))
  go_wp2_with fail
  refine (four_nil n wb).mono ?_
  rintro r w' ⟨rfl, rfl⟩
  go_wp2_with fail
  refine hB.out.mono ?_
  rintro r w2 ⟨rfl, hN2⟩
  obtain ⟨x2, a2, q2, p2⟩ := hN2.out
  have hsz := hC0.out.size
  have hR := WNext.mk ⟨x2, a2, (hC0.out.mono (fun _ _ h => h.elim)).trans q2 (fun _ _ h => h), fun k hk => (p2 k hk).imp id (fun e => Nat.le_trans hsz e)⟩
  replace hR := Box.mk hR
  clear hN2 a2 q2 p2 hB
  go_wp2_with fail
  go_returns
  exact ⟨rfl, hR.out⟩
set_option maxHeartbeats 1600000 in
set_option maxRecDepth 100000 in
theorem layn_3 (k : UInt8) (n : Int) (s : ByteArray)  (bx : Nat) (x : Value) (lx : List UInt8) (badx : Bool) (w : World) (h : WAt w bx 28 x lx badx) (hm : k.toNat % 6 = 3) (hn : -9223372036854775808 ≤ n ∧ n ≤ 9223372036854775807) (hx : lx.length ≤ 35184372088000) :
    Calls Try.prog 8 #[.pointer none, .pointer (some ⟨bx, 0, none⟩), .agg #[.int .u8 (k.toNat : Int), .int .i64 n, .string s]] w
      fun r w' => r = .returned (.tuple #[]) ∧ WNext w bx 28 x (laysX (opOk k n s) (opL k n s) lx) (badx || !opOk k n s) w' := by
  have hok : opOk k n s = fits n 8 := by simp [opOk, hm]
  have hL : opL k n s = beN n.toNat 8 := by simp [opL, hm]
  rw [hok, hL]
  obtain ⟨wb, hwb⟩ : ∃ wb, w.alloc (.cells #[.int .u8 (k.toNat : Int), .int .i64 n, .string s] 31) = wb := ⟨_, rfl⟩
  have hC0 : Chg (fun _ => False) w wb := by rw [← hwb]; exact (Chg.refl _ _).alloc _
  have hNb := Blk.new w [.int .u8 (k.toNat : Int), .int .i64 n, .string s] 31
  rw [hwb] at hNb
  have h2 : WAt wb bx 28 x lx badx := h.chg hC0 id (fun _ _ h => h)
  obtain ⟨bo, hbw⟩ : ∃ bo, w.heap.size = bo := ⟨_, rfl⟩
  rw [hbw] at hNb
  have c0 : wb.cell? ⟨bo, 0, none⟩ = some (.int .u8 (k.toNat : Int)) := hNb.cell 0
  have c1 : wb.cell? ⟨bo, 1, none⟩ = some (.int .i64 n) := hNb.cell 1
  have hkm : (k.toNat : Int).tmod 6 = (3 : Int) := by rw [Int.tmod_eq_emod_of_nonneg (by omega)]; omega
  replace hC0 := Box.mk hC0
  replace h2 := Box.mk h2
  replace h := Box.mk h
  replace hNb := Box.mk hNb
  clear hok hL hm
  go_enter Try.func8, Try.ntmps8
  have hB := Box.mk (xnum_any bx x lx badx n 8 wb (by omega) hn h2.out (by omega))
  go_wp2_with fail
  refine (eight_nil n wb).mono ?_
  rintro r w' ⟨rfl, rfl⟩
  go_wp2_with fail
  refine hB.out.mono ?_
  rintro r w2 ⟨rfl, hN2⟩
  obtain ⟨x2, a2, q2, p2⟩ := hN2.out
  have hsz := hC0.out.size
  have hR := WNext.mk ⟨x2, a2, (hC0.out.mono (fun _ _ h => h.elim)).trans q2 (fun _ _ h => h), fun k hk => (p2 k hk).imp id (fun e => Nat.le_trans hsz e)⟩
  replace hR := Box.mk hR
  clear hN2 a2 q2 p2 hB
  go_wp2_with fail
  go_returns
  exact ⟨rfl, hR.out⟩
set_option maxHeartbeats 1600000 in
set_option maxRecDepth 100000 in
theorem layn_4 (k : UInt8) (n : Int) (s : ByteArray)  (bx : Nat) (x : Value) (lx : List UInt8) (badx : Bool) (w : World) (h : WAt w bx 28 x lx badx) (hm : k.toNat % 6 = 4) (hx : lx.length ≤ 35184372088000) :
    Calls Try.prog 8 #[.pointer none, .pointer (some ⟨bx, 0, none⟩), .agg #[.int .u8 (k.toNat : Int), .int .i64 n, .string s]] w
      fun r w' => r = .returned (.tuple #[]) ∧ WNext w bx 28 x (laysX (opOk k n s) (opL k n s) lx) (badx || !opOk k n s) w' := by
  have hok : opOk k n s = decide (s.size ≤ 65535) := by simp [opOk, hm]
  have hL : opL k n s = textL s := by simp [opL, hm]
  rw [hok, hL]
  obtain ⟨wb, hwb⟩ : ∃ wb, w.alloc (.cells #[.int .u8 (k.toNat : Int), .int .i64 n, .string s] 31) = wb := ⟨_, rfl⟩
  have hC0 : Chg (fun _ => False) w wb := by rw [← hwb]; exact (Chg.refl _ _).alloc _
  have hNb := Blk.new w [.int .u8 (k.toNat : Int), .int .i64 n, .string s] 31
  rw [hwb] at hNb
  have h2 : WAt wb bx 28 x lx badx := h.chg hC0 id (fun _ _ h => h)
  obtain ⟨bo, hbw⟩ : ∃ bo, w.heap.size = bo := ⟨_, rfl⟩
  rw [hbw] at hNb
  have c0 : wb.cell? ⟨bo, 0, none⟩ = some (.int .u8 (k.toNat : Int)) := hNb.cell 0
  have c1 : wb.cell? ⟨bo, 2, none⟩ = some (.string s) := hNb.cell 2
  have hkm : (k.toNat : Int).tmod 6 = (4 : Int) := by rw [Int.tmod_eq_emod_of_nonneg (by omega)]; omega
  replace hC0 := Box.mk hC0
  replace h2 := Box.mk h2
  replace h := Box.mk h
  replace hNb := Box.mk hNb
  clear hok hL hm
  go_enter Try.func8, Try.ntmps8
  have hB := Box.mk (xtext_lay bx x lx badx s wb h2.out (by omega))
  go_wp2_with fail
  refine (text_nil s wb).mono ?_
  rintro r w' ⟨rfl, rfl⟩
  go_wp2_with fail
  refine hB.out.mono ?_
  rintro r w2 ⟨rfl, hN2⟩
  obtain ⟨x2, a2, q2, p2⟩ := hN2.out
  have hsz := hC0.out.size
  have hR := WNext.mk ⟨x2, a2, (hC0.out.mono (fun _ _ h => h.elim)).trans q2 (fun _ _ h => h), fun k hk => (p2 k hk).imp id (fun e => Nat.le_trans hsz e)⟩
  replace hR := Box.mk hR
  clear hN2 a2 q2 p2 hB
  go_wp2_with fail
  go_returns
  exact ⟨rfl, hR.out⟩
set_option maxHeartbeats 1600000 in
set_option maxRecDepth 100000 in
theorem layn_5 (k : UInt8) (n : Int) (s : ByteArray)  (bx : Nat) (x : Value) (lx : List UInt8) (badx : Bool) (w : World) (h : WAt w bx 28 x lx badx) (hm : k.toNat % 6 = 5) (hx : lx.length ≤ 35184372088000) :
    Calls Try.prog 8 #[.pointer none, .pointer (some ⟨bx, 0, none⟩), .agg #[.int .u8 (k.toNat : Int), .int .i64 n, .string s]] w
      fun r w' => r = .returned (.tuple #[]) ∧ WNext w bx 28 x (laysX (opOk k n s) (opL k n s) lx) (badx || !opOk k n s) w' := by
  have hok : opOk k n s = decide (s.size = 32) := by simp [opOk, hm]
  have hL : opL k n s = s.data.toList := by simp [opL, hm]
  rw [hok, hL]
  obtain ⟨wb, hwb⟩ : ∃ wb, w.alloc (.cells #[.int .u8 (k.toNat : Int), .int .i64 n, .string s] 31) = wb := ⟨_, rfl⟩
  have hC0 : Chg (fun _ => False) w wb := by rw [← hwb]; exact (Chg.refl _ _).alloc _
  have hNb := Blk.new w [.int .u8 (k.toNat : Int), .int .i64 n, .string s] 31
  rw [hwb] at hNb
  have h2 : WAt wb bx 28 x lx badx := h.chg hC0 id (fun _ _ h => h)
  obtain ⟨bo, hbw⟩ : ∃ bo, w.heap.size = bo := ⟨_, rfl⟩
  rw [hbw] at hNb
  have c0 : wb.cell? ⟨bo, 0, none⟩ = some (.int .u8 (k.toNat : Int)) := hNb.cell 0
  have c1 : wb.cell? ⟨bo, 2, none⟩ = some (.string s) := hNb.cell 2
  have hkm : (k.toNat : Int).tmod 6 = (5 : Int) := by rw [Int.tmod_eq_emod_of_nonneg (by omega)]; omega
  replace hC0 := Box.mk hC0
  replace h2 := Box.mk h2
  replace h := Box.mk h
  replace hNb := Box.mk hNb
  clear hok hL hm
  go_enter Try.func8, Try.ntmps8
  have hB := Box.mk (xhash_lay bx x lx badx s wb h2.out (by omega))
  go_wp2_with fail
  refine (hash_nil s wb).mono ?_
  rintro r w' ⟨rfl, rfl⟩
  go_wp2_with fail
  refine hB.out.mono ?_
  rintro r w2 ⟨rfl, hN2⟩
  obtain ⟨x2, a2, q2, p2⟩ := hN2.out
  have hsz := hC0.out.size
  have hR := WNext.mk ⟨x2, a2, (hC0.out.mono (fun _ _ h => h.elim)).trans q2 (fun _ _ h => h), fun k hk => (p2 k hk).imp id (fun e => Nat.le_trans hsz e)⟩
  replace hR := Box.mk hR
  clear hN2 a2 q2 p2 hB
  go_wp2_with fail
  go_returns
  exact ⟨rfl, hR.out⟩

theorem six (k : UInt8) : k.toNat % 6 = 0 ∨ k.toNat % 6 = 1 ∨ k.toNat % 6 = 2 ∨ k.toNat % 6 = 3 ∨ k.toNat % 6 = 4 ∨ k.toNat % 6 = 5 := by omega
theorem lay_any (k : UInt8) (n : Int) (s : ByteArray) (bw bx : Nat) (v x : Value) (l lx : List UInt8) (bad badx : Bool) (w : World) (h : Both w bw bx v x l lx bad badx) (hn : -9223372036854775808 ≤ n ∧ n ≤ 9223372036854775807) (hl : l.length ≤ 35184372088000) (hx : lx.length ≤ 35184372088000) :
    Calls Try.prog 8 #[.pointer (some ⟨bw, 0, none⟩), .pointer (some ⟨bx, 0, none⟩), .agg #[.int .u8 (k.toNat : Int), .int .i64 n, .string s]] w
      fun r w' => r = .returned (.tuple #[]) ∧ BNext w bw bx v x (lays (opOk k n s) (opL k n s) l bad) (laysX (opOk k n s) (opL k n s) lx) (bad || !opOk k n s) (badx || !opOk k n s) w' := by
  rcases six k with hm | hm | hm | hm | hm | hm
  · exact lay_0 k n s bw bx v x l lx bad badx w h hm hn hl hx
  · exact lay_1 k n s bw bx v x l lx bad badx w h hm hn hl hx
  · exact lay_2 k n s bw bx v x l lx bad badx w h hm hn hl hx
  · exact lay_3 k n s bw bx v x l lx bad badx w h hm hn hl hx
  · exact lay_4 k n s bw bx v x l lx bad badx w h hm hl hx
  · exact lay_5 k n s bw bx v x l lx bad badx w h hm hl hx
theorem layn_any (k : UInt8) (n : Int) (s : ByteArray) (bx : Nat) (x : Value) (lx : List UInt8) (badx : Bool) (w : World) (h : WAt w bx 28 x lx badx) (hn : -9223372036854775808 ≤ n ∧ n ≤ 9223372036854775807) (hx : lx.length ≤ 35184372088000) :
    Calls Try.prog 8 #[.pointer none, .pointer (some ⟨bx, 0, none⟩), .agg #[.int .u8 (k.toNat : Int), .int .i64 n, .string s]] w
      fun r w' => r = .returned (.tuple #[]) ∧ WNext w bx 28 x (laysX (opOk k n s) (opL k n s) lx) (badx || !opOk k n s) w' := by
  rcases six k with hm | hm | hm | hm | hm | hm
  · exact layn_0 k n s bx x lx badx w h hm hn hx
  · exact layn_1 k n s bx x lx badx w h hm hn hx
  · exact layn_2 k n s bx x lx badx w h hm hn hx
  · exact layn_3 k n s bx x lx badx w h hm hn hx
  · exact layn_4 k n s bx x lx badx w h hm hx
  · exact layn_5 k n s bx x lx badx w h hm hx
end Go.Proofs.Ytnfcgjefliccgaa
