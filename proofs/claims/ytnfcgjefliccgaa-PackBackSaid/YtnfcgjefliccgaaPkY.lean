/- Walk of one call of both writers. -/
import Derived.Test.YtnfcgjefliccgaaPkW
namespace Go.Proofs.Ytnfcgjefliccgaa
open Go.RowKit

/-- Can the operation be laid; what it lays. -/
def opOk (k : UInt8) (n : Int) (s : ByteArray) : Bool :=
  if k.toNat % 6 = 0 then fits n 1 else if k.toNat % 6 = 1 then fits n 2 else if k.toNat % 6 = 2 then fits n 4 else if k.toNat % 6 = 3 then fits n 8 else if k.toNat % 6 = 4 then decide (s.size ≤ 65535) else decide (s.size = 32)
def opL (k : UInt8) (n : Int) (s : ByteArray) : List UInt8 :=
  if k.toNat % 6 = 0 then beN n.toNat 1 else if k.toNat % 6 = 1 then beN n.toNat 2 else if k.toNat % 6 = 2 then beN n.toNat 4 else if k.toNat % 6 = 3 then beN n.toNat 8 else if k.toNat % 6 = 4 then textL s else s.data.toList
theorem opL_le (k : UInt8) (n : Int) (s : ByteArray) (h : opOk k n s = true) : (opL k n s).length ≤ 65537 := by
  unfold opOk at h
  unfold opL
  split
  · rw [beN_length]; omega
  · split
    · rw [beN_length]; omega
    · split
      · rw [beN_length]; omega
      · split
        · rw [beN_length]; omega
        · split
          · have h4 : s.size ≤ 65535 := by simpa [*] using h
            rw [textL, List.length_append, beN_length, data_len]; omega
          · have h5 : s.size = 32 := by simpa [*] using h
            rw [data_len]; omega
/-- Two writers in blocks of their own. -/
structure Both (w : World) (bw bx : Nat) (v x : Value) (l lx : List UInt8) (bad badx : Bool) : Prop where
  fw : WAt w bw 26 v l bad
  fx : WAt w bx 28 x lx badx
  ap : ∀ k, v.ownBlock = some k → x.ownBlock ≠ some k
theorem Both.ne {w : World} {bw bx : Nat} {v x : Value} {l lx : List UInt8} {bad badx : Bool} (h : Both w bw bx v x l lx bad badx) : bw ≠ bx := by
  rintro rfl
  have h1 := h.fw.blk
  have h2 := h.fx.blk
  unfold Blk at h1 h2
  rw [h1] at h2
  simp at h2
/-- The blocks that a call of both may change. -/
def BSet (bw bx : Nat) (v x : Value) : Nat → Prop := fun k => (k = bw ∨ v.ownBlock = some k) ∨ (k = bx ∨ x.ownBlock = some k)
/-- What a call of both leaves. -/
structure BNext (w : World) (bw bx : Nat) (v x : Value) (l lx : List UInt8) (bad badx : Bool) (w' : World) : Prop where
  out : ∃ v' x', Both w' bw bx v' x' l lx bad badx ∧ Chg (BSet bw bx v x) w w' ∧ (∀ k, v'.ownBlock = some k → v.ownBlock = some k ∨ w.heap.size ≤ k) ∧ ∀ k, x'.ownBlock = some k → x.ownBlock = some k ∨ w.heap.size ≤ k
theorem Both.mid {w w1 : World} {bw bx : Nat} {v x : Value} {l lx l1 : List UInt8} {bad badx bad1 : Bool} (h : Both w bw bx v x l lx bad badx) (h1 : WNext w bw 26 v l1 bad1 w1) : WAt w1 bx 28 x lx badx := by
  obtain ⟨v1, a1, c1, p1⟩ := h1.out
  refine h.fx.chg c1 ?_ fun k hk => ?_
  · rintro (e | e)
    · exact h.ne e.symm
    · exact h.fw.own.apart h.fx.blk (by decide) e
  · rintro (e | e)
    · exact h.fx.own.apart h.fw.blk (by decide) (by rw [hk, e])
    · exact h.ap k e hk
theorem BNext.of {w w1 w2 : World} {bw bx : Nat} {v x : Value} {l lx l1 lx1 : List UInt8} {bad badx bad1 badx1 : Bool} (h : Both w bw bx v x l lx bad badx) (h1 : WNext w bw 26 v l1 bad1 w1) (h2 : WNext w1 bx 28 x lx1 badx1 w2) : BNext w bw bx v x l1 lx1 bad1 badx1 w2 := by
  have hm := h.mid h1
  obtain ⟨v1, a1, c1, p1⟩ := h1.out
  obtain ⟨x1, a2, c2, p2⟩ := h2.out
  have hvx : ∀ k, v1.ownBlock = some k → x.ownBlock ≠ some k := fun k hk hx => by
    rcases p1 k hk with e | e
    · exact h.ap k e hx
    · have := h.fx.own.lt k hx; omega
  refine ⟨⟨v1, x1, ⟨a1.chg c2 ?_ fun k hk => ?_, a2, fun k hk hx => ?_⟩, (c1.mono fun _ _ e => .inl e).trans c2 fun _ _ e => .inr e, p1, fun k hk => ?_⟩⟩
  · rintro (e | e)
    · exact h.ne e
    · exact h.fx.own.apart h.fw.blk (by decide) e
  · rintro (e | e)
    · exact a1.own.apart hm.blk (by decide) (by rw [hk, e])
    · exact hvx k hk e
  · rcases p2 k hx with e | e
    · exact hvx k hk e
    · have := a1.own.lt k hk; omega
  · rcases p2 k hk with e | e
    · exact .inl e
    · have := c1.size; exact .inr (by omega)
set_option maxHeartbeats 1600000 in
set_option maxRecDepth 100000 in
theorem lay_0 (k : UInt8) (n : Int) (s : ByteArray) (bw : Nat) (bx : Nat) (v : Value) (x : Value) (l : List UInt8) (lx : List UInt8) (bad : Bool) (badx : Bool) (w : World) (h : Both w bw bx v x l lx bad badx) (hm : k.toNat % 6 = 0) (hn : -9223372036854775808 ≤ n ∧ n ≤ 9223372036854775807) (hl : l.length ≤ 35184372088000) (hx : lx.length ≤ 35184372088000) :
    Calls Try.prog 8 #[.pointer (some ⟨bw, 0, none⟩), .pointer (some ⟨bx, 0, none⟩), .agg #[.int .u8 (k.toNat : Int), .int .i64 n, .string s]] w
      fun r w' => r = .returned (.tuple #[]) ∧ BNext w bw bx v x (lays (opOk k n s) (opL k n s) l bad) (laysX (opOk k n s) (opL k n s) lx) (bad || !opOk k n s) (badx || !opOk k n s) w' := by
  have hok : opOk k n s = fits n 1 := by simp [opOk, hm]
  have hL : opL k n s = beN n.toNat 1 := by simp [opL, hm]
  rw [hok, hL]
  obtain ⟨wb, hwb⟩ : ∃ wb, w.alloc (.cells #[.int .u8 (k.toNat : Int), .int .i64 n, .string s] 31) = wb := ⟨_, rfl⟩
  have hC0 : Chg (fun _ => False) w wb := by rw [← hwb]; exact (Chg.refl _ _).alloc _
  have hNb := Blk.new w [.int .u8 (k.toNat : Int), .int .i64 n, .string s] 31
  rw [hwb] at hNb
  have h2 : Both wb bw bx v x l lx bad badx := ⟨h.fw.chg hC0 id (fun _ _ h => h), h.fx.chg hC0 id (fun _ _ h => h), h.ap⟩
  have hbo : ¬ (w.heap.size = bw ∨ v.ownBlock = some w.heap.size) := by
    rintro (e | e)
    · have := h.fw.blk.lt; omega
    · have := h.fw.own.lt _ e; omega
  obtain ⟨bo, hbw⟩ : ∃ bo, w.heap.size = bo := ⟨_, rfl⟩
  rw [hbw] at hNb hbo
  have c0 : wb.cell? ⟨bo, 0, none⟩ = some (.int .u8 (k.toNat : Int)) := hNb.cell 0
  have c1 : wb.cell? ⟨bo, 1, none⟩ = some (.int .i64 n) := hNb.cell 1
  have hkm : (k.toNat : Int).tmod 6 = (0 : Int) := by rw [Int.tmod_eq_emod_of_nonneg (by omega)]; omega
  replace hC0 := Box.mk hC0
  replace h2 := Box.mk h2
  replace h := Box.mk h
  replace hNb := Box.mk hNb
  clear hok hL hm
  go_enter Try.func8, Try.ntmps8
  have hA := Box.mk (byte_any bw v l bad n wb h2.out.fw (by omega))
  go_wp2_with fail
  refine hA.out.mono ?_
  rintro r w1 ⟨rfl, hN1⟩
  have hx1 := h2.out.mid hN1
  have k1 : w1.cell? ⟨bo, 1, none⟩ = some (.int .i64 n) := by
    obtain ⟨v1, _, q1, _⟩ := hN1.out
    exact (q1.blk hNb.out hbo).cell 1
  have hB := Box.mk (xnum_any bx x lx badx n 1 w1 (by omega) hn hx1 (by omega))
  replace hN1 := Box.mk hN1
  clear hA hx1 c0 c1
  go_wp2_with fail
  refine hB.out.mono ?_
  rintro r w2 ⟨rfl, hN2⟩
  have hR := BNext.of h2.out hN1.out hN2
  obtain ⟨v2, x2, a2, q2, p2, r2⟩ := hR.out
  have hsz := hC0.out.size
  have hR2 := BNext.mk ⟨v2, x2, a2, (hC0.out.mono (fun _ _ h => h.elim)).trans q2 (fun _ _ h => h), fun k hk => (p2 k hk).imp id (fun e => Nat.le_trans hsz e), fun k hk => (r2 k hk).imp id (fun e => Nat.le_trans hsz e)⟩
  replace hR2 := Box.mk hR2
  clear hR hN2 hB a2 q2 p2 r2 hN1
  go_wp2_with fail
  go_returns
  exact ⟨rfl, hR2.out⟩
set_option maxHeartbeats 1600000 in
set_option maxRecDepth 100000 in
theorem lay_1 (k : UInt8) (n : Int) (s : ByteArray) (bw : Nat) (bx : Nat) (v : Value) (x : Value) (l : List UInt8) (lx : List UInt8) (bad : Bool) (badx : Bool) (w : World) (h : Both w bw bx v x l lx bad badx) (hm : k.toNat % 6 = 1) (hn : -9223372036854775808 ≤ n ∧ n ≤ 9223372036854775807) (hl : l.length ≤ 35184372088000) (hx : lx.length ≤ 35184372088000) :
    Calls Try.prog 8 #[.pointer (some ⟨bw, 0, none⟩), .pointer (some ⟨bx, 0, none⟩), .agg #[.int .u8 (k.toNat : Int), .int .i64 n, .string s]] w
      fun r w' => r = .returned (.tuple #[]) ∧ BNext w bw bx v x (lays (opOk k n s) (opL k n s) l bad) (laysX (opOk k n s) (opL k n s) lx) (bad || !opOk k n s) (badx || !opOk k n s) w' := by
  have hok : opOk k n s = fits n 2 := by simp [opOk, hm]
  have hL : opL k n s = beN n.toNat 2 := by simp [opL, hm]
  rw [hok, hL]
  obtain ⟨wb, hwb⟩ : ∃ wb, w.alloc (.cells #[.int .u8 (k.toNat : Int), .int .i64 n, .string s] 31) = wb := ⟨_, rfl⟩
  have hC0 : Chg (fun _ => False) w wb := by rw [← hwb]; exact (Chg.refl _ _).alloc _
  have hNb := Blk.new w [.int .u8 (k.toNat : Int), .int .i64 n, .string s] 31
  rw [hwb] at hNb
  have h2 : Both wb bw bx v x l lx bad badx := ⟨h.fw.chg hC0 id (fun _ _ h => h), h.fx.chg hC0 id (fun _ _ h => h), h.ap⟩
  have hbo : ¬ (w.heap.size = bw ∨ v.ownBlock = some w.heap.size) := by
    rintro (e | e)
    · have := h.fw.blk.lt; omega
    · have := h.fw.own.lt _ e; omega
  obtain ⟨bo, hbw⟩ : ∃ bo, w.heap.size = bo := ⟨_, rfl⟩
  rw [hbw] at hNb hbo
  have c0 : wb.cell? ⟨bo, 0, none⟩ = some (.int .u8 (k.toNat : Int)) := hNb.cell 0
  have c1 : wb.cell? ⟨bo, 1, none⟩ = some (.int .i64 n) := hNb.cell 1
  have hkm : (k.toNat : Int).tmod 6 = (1 : Int) := by rw [Int.tmod_eq_emod_of_nonneg (by omega)]; omega
  replace hC0 := Box.mk hC0
  replace h2 := Box.mk h2
  replace h := Box.mk h
  replace hNb := Box.mk hNb
  clear hok hL hm
  go_enter Try.func8, Try.ntmps8
  have hA := Box.mk (two_any bw v l bad n wb h2.out.fw (by omega))
  go_wp2_with fail
  refine hA.out.mono ?_
  rintro r w1 ⟨rfl, hN1⟩
  have hx1 := h2.out.mid hN1
  have k1 : w1.cell? ⟨bo, 1, none⟩ = some (.int .i64 n) := by
    obtain ⟨v1, _, q1, _⟩ := hN1.out
    exact (q1.blk hNb.out hbo).cell 1
  have hB := Box.mk (xnum_any bx x lx badx n 2 w1 (by omega) hn hx1 (by omega))
  replace hN1 := Box.mk hN1
  clear hA hx1 c0 c1
  go_wp2_with fail
  refine hB.out.mono ?_
  rintro r w2 ⟨rfl, hN2⟩
  have hR := BNext.of h2.out hN1.out hN2
  obtain ⟨v2, x2, a2, q2, p2, r2⟩ := hR.out
  have hsz := hC0.out.size
  have hR2 := BNext.mk ⟨v2, x2, a2, (hC0.out.mono (fun _ _ h => h.elim)).trans q2 (fun _ _ h => h), fun k hk => (p2 k hk).imp id (fun e => Nat.le_trans hsz e), fun k hk => (r2 k hk).imp id (fun e => Nat.le_trans hsz e)⟩
  replace hR2 := Box.mk hR2
  clear hR hN2 hB a2 q2 p2 r2 hN1
  go_wp2_with fail
  go_returns
  exact ⟨rfl, hR2.out⟩
set_option maxHeartbeats 1600000 in
set_option maxRecDepth 100000 in
theorem lay_2 (k : UInt8) (n : Int) (s : ByteArray) (bw : Nat) (bx : Nat) (v : Value) (x : Value) (l : List UInt8) (lx : List UInt8) (bad : Bool) (badx : Bool) (w : World) (h : Both w bw bx v x l lx bad badx) (hm : k.toNat % 6 = 2) (hn : -9223372036854775808 ≤ n ∧ n ≤ 9223372036854775807) (hl : l.length ≤ 35184372088000) (hx : lx.length ≤ 35184372088000) :
    Calls Try.prog 8 #[.pointer (some ⟨bw, 0, none⟩), .pointer (some ⟨bx, 0, none⟩), .agg #[.int .u8 (k.toNat : Int), .int .i64 n, .string s]] w
      fun r w' => r = .returned (.tuple #[]) ∧ BNext w bw bx v x (lays (opOk k n s) (opL k n s) l bad) (laysX (opOk k n s) (opL k n s) lx) (bad || !opOk k n s) (badx || !opOk k n s) w' := by
  have hok : opOk k n s = fits n 4 := by simp [opOk, hm]
  have hL : opL k n s = beN n.toNat 4 := by simp [opL, hm]
  rw [hok, hL]
  obtain ⟨wb, hwb⟩ : ∃ wb, w.alloc (.cells #[.int .u8 (k.toNat : Int), .int .i64 n, .string s] 31) = wb := ⟨_, rfl⟩
  have hC0 : Chg (fun _ => False) w wb := by rw [← hwb]; exact (Chg.refl _ _).alloc _
  have hNb := Blk.new w [.int .u8 (k.toNat : Int), .int .i64 n, .string s] 31
  rw [hwb] at hNb
  have h2 : Both wb bw bx v x l lx bad badx := ⟨h.fw.chg hC0 id (fun _ _ h => h), h.fx.chg hC0 id (fun _ _ h => h), h.ap⟩
  have hbo : ¬ (w.heap.size = bw ∨ v.ownBlock = some w.heap.size) := by
    rintro (e | e)
    · have := h.fw.blk.lt; omega
    · have := h.fw.own.lt _ e; omega
  obtain ⟨bo, hbw⟩ : ∃ bo, w.heap.size = bo := ⟨_, rfl⟩
  rw [hbw] at hNb hbo
  have c0 : wb.cell? ⟨bo, 0, none⟩ = some (.int .u8 (k.toNat : Int)) := hNb.cell 0
  have c1 : wb.cell? ⟨bo, 1, none⟩ = some (.int .i64 n) := hNb.cell 1
  have hkm : (k.toNat : Int).tmod 6 = (2 : Int) := by rw [Int.tmod_eq_emod_of_nonneg (by omega)]; omega
  replace hC0 := Box.mk hC0
  replace h2 := Box.mk h2
  replace h := Box.mk h
  replace hNb := Box.mk hNb
  clear hok hL hm
  go_enter Try.func8, Try.ntmps8
  have hA := Box.mk (four_any bw v l bad n wb h2.out.fw (by omega))
  go_wp2_with fail
  refine hA.out.mono ?_
  rintro r w1 ⟨rfl, hN1⟩
  have hx1 := h2.out.mid hN1
  have k1 : w1.cell? ⟨bo, 1, none⟩ = some (.int .i64 n) := by
    obtain ⟨v1, _, q1, _⟩ := hN1.out
    exact (q1.blk hNb.out hbo).cell 1
  have hB := Box.mk (xnum_any bx x lx badx n 4 w1 (by omega) hn hx1 (by omega))
  replace hN1 := Box.mk hN1
  clear hA hx1 c0 c1
  go_wp2_with fail
  refine hB.out.mono ?_
  rintro r w2 ⟨rfl, hN2⟩
  have hR := BNext.of h2.out hN1.out hN2
  obtain ⟨v2, x2, a2, q2, p2, r2⟩ := hR.out
  have hsz := hC0.out.size
  have hR2 := BNext.mk ⟨v2, x2, a2, (hC0.out.mono (fun _ _ h => h.elim)).trans q2 (fun _ _ h => h), fun k hk => (p2 k hk).imp id (fun e => Nat.le_trans hsz e), fun k hk => (r2 k hk).imp id (fun e => Nat.le_trans hsz e)⟩
  replace hR2 := Box.mk hR2
  clear hR hN2 hB a2 q2 p2 r2 hN1
  go_wp2_with fail
  go_returns
  exact ⟨rfl, hR2.out⟩
set_option maxHeartbeats 1600000 in
set_option maxRecDepth 100000 in
theorem lay_3 (k : UInt8) (n : Int) (s : ByteArray) (bw : Nat) (bx : Nat) (v : Value) (x : Value) (l : List UInt8) (lx : List UInt8) (bad : Bool) (badx : Bool) (w : World) (h : Both w bw bx v x l lx bad badx) (hm : k.toNat % 6 = 3) (hn : -9223372036854775808 ≤ n ∧ n ≤ 9223372036854775807) (hl : l.length ≤ 35184372088000) (hx : lx.length ≤ 35184372088000) :
    Calls Try.prog 8 #[.pointer (some ⟨bw, 0, none⟩), .pointer (some ⟨bx, 0, none⟩), .agg #[.int .u8 (k.toNat : Int), .int .i64 n, .string s]] w
      fun r w' => r = .returned (.tuple #[]) ∧ BNext w bw bx v x (lays (opOk k n s) (opL k n s) l bad) (laysX (opOk k n s) (opL k n s) lx) (bad || !opOk k n s) (badx || !opOk k n s) w' := by
  have hok : opOk k n s = fits n 8 := by simp [opOk, hm]
  have hL : opL k n s = beN n.toNat 8 := by simp [opL, hm]
  rw [hok, hL]
  obtain ⟨wb, hwb⟩ : ∃ wb, w.alloc (.cells #[.int .u8 (k.toNat : Int), .int .i64 n, .string s] 31) = wb := ⟨_, rfl⟩
  have hC0 : Chg (fun _ => False) w wb := by rw [← hwb]; exact (Chg.refl _ _).alloc _
  have hNb := Blk.new w [.int .u8 (k.toNat : Int), .int .i64 n, .string s] 31
  rw [hwb] at hNb
  have h2 : Both wb bw bx v x l lx bad badx := ⟨h.fw.chg hC0 id (fun _ _ h => h), h.fx.chg hC0 id (fun _ _ h => h), h.ap⟩
  have hbo : ¬ (w.heap.size = bw ∨ v.ownBlock = some w.heap.size) := by
    rintro (e | e)
    · have := h.fw.blk.lt; omega
    · have := h.fw.own.lt _ e; omega
  obtain ⟨bo, hbw⟩ : ∃ bo, w.heap.size = bo := ⟨_, rfl⟩
  rw [hbw] at hNb hbo
  have c0 : wb.cell? ⟨bo, 0, none⟩ = some (.int .u8 (k.toNat : Int)) := hNb.cell 0
  have c1 : wb.cell? ⟨bo, 1, none⟩ = some (.int .i64 n) := hNb.cell 1
  have hkm : (k.toNat : Int).tmod 6 = (3 : Int) := by rw [Int.tmod_eq_emod_of_nonneg (by omega)]; omega
  replace hC0 := Box.mk hC0
  replace h2 := Box.mk h2
  replace h := Box.mk h
  replace hNb := Box.mk hNb
  clear hok hL hm
  go_enter Try.func8, Try.ntmps8
  have hA := Box.mk (eight_any bw v l bad n wb h2.out.fw (by omega))
  go_wp2_with fail
  refine hA.out.mono ?_
  rintro r w1 ⟨rfl, hN1⟩
  have hx1 := h2.out.mid hN1
  have k1 : w1.cell? ⟨bo, 1, none⟩ = some (.int .i64 n) := by
    obtain ⟨v1, _, q1, _⟩ := hN1.out
    exact (q1.blk hNb.out hbo).cell 1
  have hB := Box.mk (xnum_any bx x lx badx n 8 w1 (by omega) hn hx1 (by omega))
  replace hN1 := Box.mk hN1
  clear hA hx1 c0 c1
  go_wp2_with fail
  refine hB.out.mono ?_
  rintro r w2 ⟨rfl, hN2⟩
  have hR := BNext.of h2.out hN1.out hN2
  obtain ⟨v2, x2, a2, q2, p2, r2⟩ := hR.out
  have hsz := hC0.out.size
  have hR2 := BNext.mk ⟨v2, x2, a2, (hC0.out.mono (fun _ _ h => h.elim)).trans q2 (fun _ _ h => h), fun k hk => (p2 k hk).imp id (fun e => Nat.le_trans hsz e), fun k hk => (r2 k hk).imp id (fun e => Nat.le_trans hsz e)⟩
  replace hR2 := Box.mk hR2
  clear hR hN2 hB a2 q2 p2 r2 hN1
  go_wp2_with fail
  go_returns
  exact ⟨rfl, hR2.out⟩
set_option maxHeartbeats 1600000 in
set_option maxRecDepth 100000 in
theorem lay_4 (k : UInt8) (n : Int) (s : ByteArray) (bw : Nat) (bx : Nat) (v : Value) (x : Value) (l : List UInt8) (lx : List UInt8) (bad : Bool) (badx : Bool) (w : World) (h : Both w bw bx v x l lx bad badx) (hm : k.toNat % 6 = 4) (hl : l.length ≤ 35184372088000) (hx : lx.length ≤ 35184372088000) :
    Calls Try.prog 8 #[.pointer (some ⟨bw, 0, none⟩), .pointer (some ⟨bx, 0, none⟩), .agg #[.int .u8 (k.toNat : Int), .int .i64 n, .string s]] w
      fun r w' => r = .returned (.tuple #[]) ∧ BNext w bw bx v x (lays (opOk k n s) (opL k n s) l bad) (laysX (opOk k n s) (opL k n s) lx) (bad || !opOk k n s) (badx || !opOk k n s) w' := by
  have hok : opOk k n s = decide (s.size ≤ 65535) := by simp [opOk, hm]
  have hL : opL k n s = textL s := by simp [opL, hm]
  rw [hok, hL]
  obtain ⟨wb, hwb⟩ : ∃ wb, w.alloc (.cells #[.int .u8 (k.toNat : Int), .int .i64 n, .string s] 31) = wb := ⟨_, rfl⟩
  have hC0 : Chg (fun _ => False) w wb := by rw [← hwb]; exact (Chg.refl _ _).alloc _
  have hNb := Blk.new w [.int .u8 (k.toNat : Int), .int .i64 n, .string s] 31
  rw [hwb] at hNb
  have h2 : Both wb bw bx v x l lx bad badx := ⟨h.fw.chg hC0 id (fun _ _ h => h), h.fx.chg hC0 id (fun _ _ h => h), h.ap⟩
  have hbo : ¬ (w.heap.size = bw ∨ v.ownBlock = some w.heap.size) := by
    rintro (e | e)
    · have := h.fw.blk.lt; omega
    · have := h.fw.own.lt _ e; omega
  obtain ⟨bo, hbw⟩ : ∃ bo, w.heap.size = bo := ⟨_, rfl⟩
  rw [hbw] at hNb hbo
  have c0 : wb.cell? ⟨bo, 0, none⟩ = some (.int .u8 (k.toNat : Int)) := hNb.cell 0
  have c1 : wb.cell? ⟨bo, 2, none⟩ = some (.string s) := hNb.cell 2
  have hkm : (k.toNat : Int).tmod 6 = (4 : Int) := by rw [Int.tmod_eq_emod_of_nonneg (by omega)]; omega
  replace hC0 := Box.mk hC0
  replace h2 := Box.mk h2
  replace h := Box.mk h
  replace hNb := Box.mk hNb
  clear hok hL hm
  go_enter Try.func8, Try.ntmps8
  have hA := Box.mk (text_any bw v l bad s wb h2.out.fw (by omega))
  go_wp2_with fail
  refine hA.out.mono ?_
  rintro r w1 ⟨rfl, hN1⟩
  have hx1 := h2.out.mid hN1
  have k1 : w1.cell? ⟨bo, 2, none⟩ = some (.string s) := by
    obtain ⟨v1, _, q1, _⟩ := hN1.out
    exact (q1.blk hNb.out hbo).cell 2
  have hB := Box.mk (xtext_lay bx x lx badx s w1 hx1 (by omega))
  replace hN1 := Box.mk hN1
  clear hA hx1 c0 c1
  go_wp2_with fail
  refine hB.out.mono ?_
  rintro r w2 ⟨rfl, hN2⟩
  have hR := BNext.of h2.out hN1.out hN2
  obtain ⟨v2, x2, a2, q2, p2, r2⟩ := hR.out
  have hsz := hC0.out.size
  have hR2 := BNext.mk ⟨v2, x2, a2, (hC0.out.mono (fun _ _ h => h.elim)).trans q2 (fun _ _ h => h), fun k hk => (p2 k hk).imp id (fun e => Nat.le_trans hsz e), fun k hk => (r2 k hk).imp id (fun e => Nat.le_trans hsz e)⟩
  replace hR2 := Box.mk hR2
  clear hR hN2 hB a2 q2 p2 r2 hN1
  go_wp2_with fail
  go_returns
  exact ⟨rfl, hR2.out⟩
set_option maxHeartbeats 1600000 in
set_option maxRecDepth 100000 in
theorem lay_5 (k : UInt8) (n : Int) (s : ByteArray) (bw : Nat) (bx : Nat) (v : Value) (x : Value) (l : List UInt8) (lx : List UInt8) (bad : Bool) (badx : Bool) (w : World) (h : Both w bw bx v x l lx bad badx) (hm : k.toNat % 6 = 5) (hl : l.length ≤ 35184372088000) (hx : lx.length ≤ 35184372088000) :
    Calls Try.prog 8 #[.pointer (some ⟨bw, 0, none⟩), .pointer (some ⟨bx, 0, none⟩), .agg #[.int .u8 (k.toNat : Int), .int .i64 n, .string s]] w
      fun r w' => r = .returned (.tuple #[]) ∧ BNext w bw bx v x (lays (opOk k n s) (opL k n s) l bad) (laysX (opOk k n s) (opL k n s) lx) (bad || !opOk k n s) (badx || !opOk k n s) w' := by
  have hok : opOk k n s = decide (s.size = 32) := by simp [opOk, hm]
  have hL : opL k n s = s.data.toList := by simp [opL, hm]
  rw [hok, hL]
  obtain ⟨wb, hwb⟩ : ∃ wb, w.alloc (.cells #[.int .u8 (k.toNat : Int), .int .i64 n, .string s] 31) = wb := ⟨_, rfl⟩
  have hC0 : Chg (fun _ => False) w wb := by rw [← hwb]; exact (Chg.refl _ _).alloc _
  have hNb := Blk.new w [.int .u8 (k.toNat : Int), .int .i64 n, .string s] 31
  rw [hwb] at hNb
  have h2 : Both wb bw bx v x l lx bad badx := ⟨h.fw.chg hC0 id (fun _ _ h => h), h.fx.chg hC0 id (fun _ _ h => h), h.ap⟩
  have hbo : ¬ (w.heap.size = bw ∨ v.ownBlock = some w.heap.size) := by
    rintro (e | e)
    · have := h.fw.blk.lt; omega
    · have := h.fw.own.lt _ e; omega
  obtain ⟨bo, hbw⟩ : ∃ bo, w.heap.size = bo := ⟨_, rfl⟩
  rw [hbw] at hNb hbo
  have c0 : wb.cell? ⟨bo, 0, none⟩ = some (.int .u8 (k.toNat : Int)) := hNb.cell 0
  have c1 : wb.cell? ⟨bo, 2, none⟩ = some (.string s) := hNb.cell 2
  have hkm : (k.toNat : Int).tmod 6 = (5 : Int) := by rw [Int.tmod_eq_emod_of_nonneg (by omega)]; omega
  replace hC0 := Box.mk hC0
  replace h2 := Box.mk h2
  replace h := Box.mk h
  replace hNb := Box.mk hNb
  clear hok hL hm
  go_enter Try.func8, Try.ntmps8
  have hA := Box.mk (hash_any bw v l bad s wb h2.out.fw (by omega))
  go_wp2_with fail
  refine hA.out.mono ?_
  rintro r w1 ⟨rfl, hN1⟩
  have hx1 := h2.out.mid hN1
  have k1 : w1.cell? ⟨bo, 2, none⟩ = some (.string s) := by
    obtain ⟨v1, _, q1, _⟩ := hN1.out
    exact (q1.blk hNb.out hbo).cell 2
  have hB := Box.mk (xhash_lay bx x lx badx s w1 hx1 (by omega))
  replace hN1 := Box.mk hN1
  clear hA hx1 c0 c1
  go_wp2_with fail
  refine hB.out.mono ?_
  rintro r w2 ⟨rfl, hN2⟩
  have hR := BNext.of h2.out hN1.out hN2
  obtain ⟨v2, x2, a2, q2, p2, r2⟩ := hR.out
  have hsz := hC0.out.size
  have hR2 := BNext.mk ⟨v2, x2, a2, (hC0.out.mono (fun _ _ h => h.elim)).trans q2 (fun _ _ h => h), fun k hk => (p2 k hk).imp id (fun e => Nat.le_trans hsz e), fun k hk => (r2 k hk).imp id (fun e => Nat.le_trans hsz e)⟩
  replace hR2 := Box.mk hR2
  clear hR hN2 hB a2 q2 p2 r2 hN1
  go_wp2_with fail
  go_returns
  exact ⟨rfl, hR2.out⟩
end Go.Proofs.Ytnfcgjefliccgaa
