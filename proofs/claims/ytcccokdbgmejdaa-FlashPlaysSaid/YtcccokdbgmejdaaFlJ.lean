/- A device beside other blocks: what each call leaves; keeps; nil devices. -/
import Derived.Test.YtcccokdbgmejdaaFlI
namespace Go.Proofs.Ytcccokdbgmejdaa
open Go.RowKit

/-- A device whose blocks lie at or beyond B, none of them in X. -/
structure DV (B : Nat) (X : Nat → Prop) (w : World) (bd : Nat) (D : Dev) : Prop where
  out : ∃ F, DAt w bd F D ∧ (∀ k, F k → B ≤ k ∧ ¬ X k)
  x : ∀ k, X k → k < w.heap.size
  b : B ≤ w.heap.size
/-- What a call of it changes. -/
abbrev Others (B : Nat) (X : Nat → Prop) (w w' : World) : Prop := Chg (fun k => B ≤ k ∧ ¬ X k) w w'
section
variable {B : Nat} {X : Nat → Prop} {w w' : World} {bd : Nat} {D D' : Dev}
theorem DV.keep (h : DV B X w bd D) (hb : Below w.heap.size w w') : DV B X w' bd D := by
  obtain ⟨F, hF, h1⟩ := h.out
  exact ⟨⟨F, hF.below hb, h1⟩, fun k hk => Nat.lt_of_lt_of_le (h.x k hk) hb.size, Nat.le_trans h.b hb.size⟩
/-- A change of what is in X alone. -/
theorem DV.chg {S : Nat → Prop} (h : DV B X w bd D) (hc : Chg S w w') (hS : ∀ k, k < w.heap.size → S k → X k) : DV B X w' bd D := by
  obtain ⟨F, hF, h1⟩ := h.out
  exact ⟨⟨F, hF.chg hc fun k hk hs => (h1 k hk).2 (hS k (hF.lt k hk) hs), h1⟩, fun k hk => Nat.lt_of_lt_of_le (h.x k hk) hc.size, Nat.le_trans h.b hc.size⟩
/-- More is set aside. -/
theorem DV.aside (h : DV B X w bd D) (hb : Below w.heap.size w w') (Y : Nat → Prop) (hY : ∀ k, Y k → X k ∨ (w.heap.size ≤ k ∧ k < w'.heap.size)) : DV B Y w' bd D := by
  obtain ⟨F, hF, h1⟩ := h.out
  have hs := hb.size
  refine ⟨⟨F, hF.below hb, fun k hk => ⟨(h1 k hk).1, fun hy => ?_⟩⟩, fun k hk => ?_, Nat.le_trans h.b hs⟩
  · rcases hY k hy with h2 | h2
    · exact (h1 k hk).2 h2
    · have := hF.lt k hk; omega
  · rcases hY k hk with h2 | h2
    · have := h.x k h2; omega
    · exact h2.2
theorem DV.lt (h : DV B X w bd D) : bd < w.heap.size ∧ B ≤ bd ∧ ¬ X bd := by
  obtain ⟨F, hF, h1⟩ := h.out
  exact ⟨hF.lt bd hF.fd, h1 bd hF.fd⟩
theorem DV.ok (h : DV B X w bd D) : D.ok := by
  obtain ⟨F, hF, _⟩ := h.out
  exact hF.ok
theorem DV.next {F : Nat → Prop} (h : DV B X w bd D) (h1 : ∀ k, F k → B ≤ k ∧ ¬ X k) (hN : DNext w bd F D' w') : DV B X w' bd D' ∧ Others B X w w' := by
  refine ⟨⟨⟨_, hN.at_, fun k hk => ?_⟩, fun k hk => Nat.lt_of_lt_of_le (h.x k hk) hN.chg.size, Nat.le_trans h.b hN.chg.size⟩, hN.chg.mono fun i _ hi => h1 i hi⟩
  rcases hk with hk | hk
  · exact h1 k hk
  · exact ⟨Nat.le_trans h.b hk.1, fun hx => by have := h.x k hx; omega⟩
theorem Others.below (h : Others B X w w') (hb : B ≤ w.heap.size) : Below B w w' := Chg.below h hb fun _ hi => hi.1
theorem DV.write (h : DV B X w bd D) (n : Int) (t : ByteArray) (hk : D.taken ≤ 1000000) (hf : D.fall ≤ 9223372036854775807) (hws : D.ws.length ≤ 1000000) :
    Calls Try.prog 14 #[.pointer (some ⟨bd, 0, none⟩), .int .i64 n, .string t] w fun e w' => e = .returned (.int .i64 (D.writeE n t.data.toList)) ∧ Box (DV B X w' bd (D.write n t.data.toList)) ∧ Box (Others B X w w') := by
  obtain ⟨F, hF, h1⟩ := h.out
  exact (write_any bd F D n t w hF hk hf hws).mono fun e w' ⟨a, b⟩ => ⟨a, ⟨(h.next h1 b).1⟩, ⟨(h.next h1 b).2⟩⟩
theorem DV.barrier (h : DV B X w bd D) (hk : D.taken ≤ 1000000) (hf : D.fall ≤ 9223372036854775807) :
    Calls Try.prog 15 #[.pointer (some ⟨bd, 0, none⟩)] w fun e w' => e = .returned (.int .i64 D.barrierE) ∧ Box (DV B X w' bd D.barrier) ∧ Box (Others B X w w') := by
  obtain ⟨F, hF, h1⟩ := h.out
  exact (barrier_any bd F D w hF hk hf).mono fun e w' ⟨a, b⟩ => ⟨a, ⟨(h.next h1 b).1⟩, ⟨(h.next h1 b).2⟩⟩
theorem DV.crash (h : DV B X w bd D) (v : Value) (keep : List Int) (h0 : 0 < D.safe.length) (hws : D.ws.length ≤ 1000000) (hI : Ints w (fun k => k < B ∨ X k) v keep) (hkl : keep.length ≤ 9223372036854775807) :
    Calls Try.prog 18 #[.pointer (some ⟨bd, 0, none⟩), .agg #[v]] w fun e w' => e = .returned (.tuple #[]) ∧ Box (DV B X w' bd (D.crash keep)) ∧ Box (Others B X w w') := by
  obtain ⟨F, hF, h1⟩ := h.out
  exact (crash_fit bd F (fun k => k < B ∨ X k) D v keep w hF (fun k hk hG => by have := h1 k hk; rcases hG with hG | hG; omega; exact this.2 hG) h0 hws hI hkl).mono fun e w' ⟨a, b⟩ => ⟨a, ⟨(h.next h1 b).1⟩, ⟨(h.next h1 b).2⟩⟩
theorem DV.fall (h : DV B X w bd D) (n : Int) (hn : -9223372036854775808 ≤ n ∧ n ≤ 9223372036854775807) :
    Calls Try.prog 21 #[.pointer (some ⟨bd, 0, none⟩), .int .i64 n] w fun e w' => e = .returned (.tuple #[]) ∧ Box (DV B X w' bd (D.falls n)) ∧ Box (Others B X w w') := by
  obtain ⟨F, hF, h1⟩ := h.out
  exact (fall_any bd F D n w hF hn).mono fun e w' ⟨a, b, c⟩ => ⟨a, ⟨(h.next h1 (DNext.small hF b c)).1⟩, ⟨(h.next h1 (DNext.small hF b c)).2⟩⟩
theorem DV.read (h : DV B X w bd D) (n : Int) :
    Calls Try.prog 19 #[.pointer (some ⟨bd, 0, none⟩), .int .i64 n] w fun e w' => e = .returned (readR D n) ∧ w = w' := by
  obtain ⟨F, hF, h1⟩ := h.out
  exact read_any bd F D n w hF
theorem DV.sectors (h : DV B X w bd D) : Calls Try.prog 26 #[.pointer (some ⟨bd, 0, none⟩)] w fun e w' => e = .returned (.int .i64 (D.safe.length : Int)) ∧ w = w' := by
  obtain ⟨F, hF, h1⟩ := h.out
  exact sectors_any bd F D w hF
theorem DV.pending (h : DV B X w bd D) : Calls Try.prog 16 #[.pointer (some ⟨bd, 0, none⟩)] w fun e w' => e = .returned (.int .i64 (D.ws.length : Int)) ∧ w = w' := by
  obtain ⟨F, hF, h1⟩ := h.out
  exact pending_any bd F D w hF
theorem DV.steps (h : DV B X w bd D) : Calls Try.prog 22 #[.pointer (some ⟨bd, 0, none⟩)] w fun e w' => e = .returned (.int .i64 (D.taken : Int)) ∧ w = w' := by
  obtain ⟨F, hF, h1⟩ := h.out
  exact steps_any bd F D w hF
theorem DV.off (h : DV B X w bd D) : Calls Try.prog 20 #[.pointer (some ⟨bd, 0, none⟩)] w fun e w' => e = .returned (.bool D.off) ∧ w = w' := by
  obtain ⟨F, hF, h1⟩ := h.out
  exact off_any bd F D w hF
end
/-- A new device. -/
def NewV (B : Nat) (X : Nat → Prop) (w : World) (n : Nat) (e : Ending) (w' : World) : Prop :=
  ∃ bd, e = .returned (.tuple #[.pointer (some ⟨bd, 0, none⟩), .int .i64 0]) ∧ Box (DV B X w' bd (Dev.new n)) ∧ Box (Below w.heap.size w w')
theorem new_v (B : Nat) (X : Nat → Prop) (n : Nat) (w : World) (h1 : 1 ≤ n) (h2 : n ≤ 4096) (hB : B ≤ w.heap.size) (hX : ∀ k, X k → k < w.heap.size) :
    Calls Try.prog 13 #[.int .i64 (n : Int)] w (NewV B X w n) :=
  (new_fit n w h1 h2).mono fun e w' ⟨bd, a, b, c⟩ => ⟨bd, a, ⟨⟨_, b, fun k hk => ⟨by omega, fun hx => by have := hX k hx; omega⟩⟩, fun k hk => Nat.lt_of_lt_of_le (hX k hk) c.size, Nat.le_trans hB c.size⟩, ⟨c⟩⟩

/-! ### The first example -/
def tAb : ByteArray := ⟨#[97, 98]⟩
def tXyz : ByteArray := ⟨#[120, 121, 122]⟩
def tQ : ByteArray := ⟨#[113]⟩
def k1 : Dev := (Dev.new 2).write 0 [97, 98]
def k2 : Dev := k1.barrier
def k3 : Dev := k2.write 0 [120, 121, 122]
def k4 : Dev := k3.write 1 [113]
def k5 : Dev := k4.crash [1]
theorem k1_e : (Dev.new 2).writeE 0 [97, 98] = 0 := by decide +kernel
theorem k2_e : k1.barrierE = 0 := by decide +kernel
theorem k3_e : k2.writeE 0 [120, 121, 122] = 0 := by decide +kernel
theorem k4_e : k3.writeE 1 [113] = 0 := by decide +kernel
theorem k1_b : k1.taken ≤ 1000000 ∧ k1.fall ≤ 9223372036854775807 ∧ k1.ws.length ≤ 1000000 := by decide +kernel
theorem k2_b : k2.taken ≤ 1000000 ∧ k2.fall ≤ 9223372036854775807 ∧ k2.ws.length ≤ 1000000 := by decide +kernel
theorem k3_b : k3.taken ≤ 1000000 ∧ k3.fall ≤ 9223372036854775807 ∧ k3.ws.length ≤ 1000000 := by decide +kernel
theorem k4_b : 0 < k4.safe.length ∧ k4.ws.length ≤ 1000000 := by decide +kernel
def s0 : ByteArray := ⟨(k5.read 0).toArray⟩
def s1 : ByteArray := ⟨(k5.read 1).toArray⟩
theorem k5_0 : readR k5 0 = .tuple #[.string s0, .int .i64 0] := by
  unfold readR s0
  rw [show k5.refused 0 = 0 by decide +kernel]
theorem k5_1 : readR k5 1 = .tuple #[.string s1, .int .i64 0] := by
  unfold readR s1
  rw [show k5.refused 1 = 0 by decide +kernel]
theorem s0_size : s0.size = 64 := by decide +kernel
theorem s1_size : s1.size = 64 := by decide +kernel
theorem s0_cut : (s0.extract 0 4).toList = [120, 98, 0, 0] := by decide +kernel
theorem s1_cut : (s1.extract 0 2).toList = [113, 0] := by decide +kernel
set_option maxHeartbeats 1600000 in
set_option maxRecDepth 100000 in
theorem keeps_any (w : World) : Calls Try.prog 9 #[] w fun e w' => e = .returned (.bool true) ∧ Below w.heap.size w w' := by
  have hN := Box.mk (new_v w.heap.size (fun _ => False) 2 w (by omega) (by omega) (Nat.le_refl _) (fun _ h => h.elim))
  go_enter Try.func9, Try.ntmps9
  go_wp2_with fail
  refine hN.out.mono ?_
  rintro e w1 ⟨bd, rfl, hD1, hB1⟩
  clear hN
  have hW1 := hD1.out.write 0 tAb (by decide) (by decide) (by decide)
  rw [show tAb.data.toList = [97, 98] from rfl, k1_e, show (Dev.new 2).write 0 [97, 98] = k1 from rfl] at hW1
  replace hW1 := Box.mk hW1
  go_wp2_with fail
  refine hW1.out.mono ?_
  rintro e w2 ⟨rfl, hD2, hO2⟩
  have hB2 := Box.mk (hB1.out.trans (hO2.out.below hD1.out.b))
  have hW2 := hD2.out.barrier k1_b.1 k1_b.2.1
  rw [k2_e, show k1.barrier = k2 from rfl] at hW2
  replace hW2 := Box.mk hW2
  clear hW1 hD1 hO2 hB1
  go_wp2_with fail
  refine hW2.out.mono ?_
  rintro e w3 ⟨rfl, hD3, hO3⟩
  have hB3 := Box.mk (hB2.out.trans (hO3.out.below hD2.out.b))
  have hW3 := hD3.out.write 0 tXyz k2_b.1 k2_b.2.1 k2_b.2.2
  rw [show tXyz.data.toList = [120, 121, 122] from rfl, k3_e, show k2.write 0 [120, 121, 122] = k3 from rfl] at hW3
  replace hW3 := Box.mk hW3
  clear hW2 hD2 hO3 hB2
  go_wp2_with fail
  refine hW3.out.mono ?_
  rintro e w4 ⟨rfl, hD4, hO4⟩
  have hB4 := Box.mk (hB3.out.trans (hO4.out.below hD3.out.b))
  have hW4 := hD4.out.write 1 tQ k3_b.1 k3_b.2.1 k3_b.2.2
  rw [show tQ.data.toList = [113] from rfl, k4_e, show k3.write 1 [113] = k4 from rfl] at hW4
  replace hW4 := Box.mk hW4
  clear hW3 hD3 hO4 hB3
  go_wp2_with fail
  refine hW4.out.mono ?_
  rintro e w5 ⟨rfl, hD5, hO5⟩
  have hB5 := Box.mk (hB4.out.trans (hO5.out.below hD4.out.b))
  clear hW4 hD4 hO5 hB4
  have hbi : Below w5.heap.size w5 (w5.alloc (.cells #[.int .i64 1] 3)) := (Below.refl _ _).alloc (Nat.le_refl _) _
  have hD6 := hD5.out.aside hbi (fun k => k = w5.heap.size) (fun k hk => .inr (by simp; omega))
  have hB6 := Box.mk (hB5.out.trans (hbi.mono hD5.out.b))
  have hI6 : Ints (w5.alloc (.cells #[.int .i64 1] 3)) (fun k => k < w.heap.size ∨ k = w5.heap.size) (.slice (some ⟨w5.heap.size, 0, none⟩) 1 1) [1] :=
    ⟨⟨_, 1, rfl, fun _ => ⟨w5.heap.size, 0, rfl, by simp, .inr rfl, fun i hi => by
      obtain rfl : i = 0 := by simpa using hi
      exact (Blk.new w5 [.int .i64 1] 3).cell 0⟩⟩⟩
  have hW6 := hD6.crash (.slice (some ⟨w5.heap.size, 0, none⟩) 1 1) [1] k4_b.1 k4_b.2 hI6 (by decide)
  rw [show k4.crash [1] = k5 from rfl] at hW6
  replace hW6 := Box.mk hW6
  replace hD6 := Box.mk hD6
  clear hI6 hbi hB5
  go_wp2_with fail
  refine hW6.out.mono ?_
  rintro e w7 ⟨rfl, hD7, hO7⟩
  have hB7 := Box.mk (hB6.out.trans (hO7.out.below hD6.out.b))
  have hR0 := hD7.out.read 0
  have hR1 := hD7.out.read 1
  rw [k5_0] at hR0
  rw [k5_1] at hR1
  replace hR0 := Box.mk hR0
  replace hR1 := Box.mk hR1
  clear hW6 hD6 hO7 hB6 hD7
  go_wp2_with fail
  refine hR0.out.mono ?_
  rintro e w' ⟨rfl, rfl⟩
  go_wp2_with fail
  refine hR1.out.mono ?_
  rintro e w' ⟨rfl, rfl⟩
  have z0 := s0_size
  have z1 := s1_size
  have y0 := s0_cut
  have y1 := s1_cut
  clear hR0 hR1 hD5
  go_wp2_with fail
  go_ret
  exact ⟨rfl, hB7.out⟩
set_option maxHeartbeats 400000 in
theorem crash_nil (v : Value) (w : World) :
    Calls Try.prog 18 #[.pointer none, .agg #[v]] w fun e w' => e = .returned (.tuple #[]) ∧ Below w.heap.size w w' := by
  go_enter Try.func18, Try.ntmps18
  go_wp2_with fail
  go_returns
  exact ⟨rfl, (Below.refl _ _).alloc (Nat.le_refl _) _⟩
theorem fall_nil (n : Int) (w : World) :
    Calls Try.prog 21 #[.pointer none, .int .i64 n] w fun e w' => e = .returned (.tuple #[]) ∧ w = w' := by
  go_enter Try.func21, Try.ntmps21
  go_wp2_with fail
  go_returns
  exact ⟨rfl, rfl⟩
theorem sectors_nil (w : World) : Calls Try.prog 26 #[.pointer none] w fun e w' => e = .returned (.int .i64 0) ∧ w = w' := by
  go_enter Try.func26, Try.ntmps26
  go_wp2_with fail
  go_ret
  exact ⟨rfl, rfl⟩
theorem pending_nil (w : World) : Calls Try.prog 16 #[.pointer none] w fun e w' => e = .returned (.int .i64 0) ∧ w = w' := by
  go_enter Try.func16, Try.ntmps16
  go_wp2_with fail
  go_ret
  exact ⟨rfl, rfl⟩
theorem steps_nil (w : World) : Calls Try.prog 22 #[.pointer none] w fun e w' => e = .returned (.int .i64 0) ∧ w = w' := by
  go_enter Try.func22, Try.ntmps22
  go_wp2_with fail
  go_ret
  exact ⟨rfl, rfl⟩
theorem off_nil (w : World) : Calls Try.prog 20 #[.pointer none] w fun e w' => e = .returned (.bool false) ∧ w = w' := by
  go_enter Try.func20, Try.ntmps20
  go_wp2_with fail
  go_ret
  exact ⟨rfl, rfl⟩
theorem copy_nil (w : World) : Calls Try.prog 17 #[.pointer none] w fun e w' => e = .returned (.pointer none) ∧ w = w' := by
  go_enter Try.func17, Try.ntmps17
  go_wp2_with fail
  go_ret
  exact ⟨rfl, rfl⟩
set_option maxHeartbeats 1600000 in
set_option maxRecDepth 100000 in
theorem flashnone_any (x : UInt8) (n : Int) (s : ByteArray) (v : Value) (w : World) :
    Calls Try.prog 8 #[.agg #[.int .u8 (x.toNat : Int), .int .i64 n, .string s, v]] w fun e w' => e = .returned (.bool true) ∧ Below w.heap.size w w' := by
  obtain ⟨wb, hwb⟩ : ∃ wb, w.alloc (.cells #[.int .u8 (x.toNat : Int), .int .i64 n, .string s, v] 32) = wb := ⟨_, rfl⟩
  have hB0 : Below w.heap.size w wb := by rw [← hwb]; exact (Below.refl _ _).alloc (Nat.le_refl _) _
  have hN := Blk.new w [.int .u8 (x.toNat : Int), .int .i64 n, .string s, v] 32
  rw [hwb] at hN
  have hL := keeps_any wb
  obtain ⟨bo, hbo⟩ : ∃ bo, w.heap.size = bo := ⟨_, rfl⟩
  rw [hbo] at hN
  replace hB0 := Box.mk hB0
  replace hN := Box.mk hN
  go_enter Try.func8, Try.ntmps8
  go_wp2_with fail
  refine hL.mono ?_
  rintro e w1 ⟨rfl, hb1⟩
  clear hL
  have hN1 : Blk w1 bo _ _ := (hb1.block _ hN.out.lt).trans hN.out
  have c1 : w1.cell? ⟨bo, 1, none⟩ = some (.int .i64 n) := hN1.cell 1
  have c2 : w1.cell? ⟨bo, 2, none⟩ = some (.string s) := hN1.cell 2
  have c3 : w1.cell? ⟨bo, 3, none⟩ = some v := hN1.cell 3
  have hB1 := Box.mk (hB0.out.trans (hb1.mono hB0.out.size))
  replace hN1 := Box.mk hN1
  clear hb1 hwb hN
  go_wp2_with fail
  refine (fall_nil n w1).mono ?_
  rintro e w' ⟨rfl, rfl⟩
  go_wp2_with fail
  refine (crash_nil v w1).mono ?_
  rintro e w2 ⟨rfl, hb2⟩
  have hN2 : Blk w2 bo _ _ := (hb2.block _ hN1.out.lt).trans hN1.out
  have d1 : w2.cell? ⟨bo, 1, none⟩ = some (.int .i64 n) := hN2.cell 1
  have d2 : w2.cell? ⟨bo, 2, none⟩ = some (.string s) := hN2.cell 2
  have hB2 := Box.mk (hB1.out.trans (hb2.mono hB1.out.size))
  clear hb2 hN2 hN1 hB1 hB0 c1 c2 c3 hbo
  go_wp2_with fail
  refine (read_nil n w2).mono ?_
  rintro e w' ⟨rfl, rfl⟩
  go_wp2_with fail
  refine (write_nil n s w2).mono ?_
  rintro e w' ⟨rfl, rfl⟩
  go_wp2_with fail
  refine (barrier_nil w2).mono ?_
  rintro e w' ⟨rfl, rfl⟩
  go_wp2_with fail
  refine (sectors_nil w2).mono ?_
  rintro e w' ⟨rfl, rfl⟩
  go_wp2_with fail
  refine (pending_nil w2).mono ?_
  rintro e w' ⟨rfl, rfl⟩
  go_wp2_with fail
  refine (steps_nil w2).mono ?_
  rintro e w' ⟨rfl, rfl⟩
  go_wp2_with fail
  refine (off_nil w2).mono ?_
  rintro e w' ⟨rfl, rfl⟩
  go_wp2_with fail
  refine (copy_nil w2).mono ?_
  rintro e w' ⟨rfl, rfl⟩
  go_wp2_with fail
  go_ret
  exact ⟨rfl, hB2.out⟩
end Go.Proofs.Ytcccokdbgmejdaa
