/- The program's cell: Open. -/
import Derived.Test.YtoaipjpbioaneaaGreatCeI
namespace Go.Proofs.YtoaipjpbioaneaaGreat
open Go.RowKit Go.Maps

/-- What a copy reads: number 0 and nothing, if it isn't valid. -/
def readN (S : List Sec) (a half : Nat) : Nat × Ct := (readM S a half).getD (0, [])
def openN (S : List Sec) (base half : Nat) : Nat × Ct × Nat :=
  if 0 < (readN S base half).1 ∧ (readN S (base + half) half).1 ≤ (readN S base half).1 then ((readN S base half).1, (readN S base half).2, 0) else ((readN S (base + half) half).1, (readN S (base + half) half).2, 1)
theorem readM_pos {S : List Sec} {a half : Nat} {x : Nat × Ct} (h : readM S a half = some x) : 1 ≤ x.1 := by
  unfold readM at h
  split at h
  · next ho =>
    obtain ⟨c, _, rfl⟩ := Option.map_eq_some_iff.1 h
    unfold headOk at ho
    simp only [decide_eq_true_eq] at ho
    show 1 ≤ (headR (S.getD a zeroS)).1.toNat
    omega
  · cases h
theorem Region.opensN {S : List Sec} {base half num : Nat} {c : Ct} {last : Nat} (h : Region S base half num c last) : openN S base half = (num, c, last) := by
  have hl := h.last1
  have hc := h.cur
  have ho := h.old
  unfold openN readN
  rcases (show last = 0 ∨ last = 1 by omega) with rfl | rfl
  · simp only [Nat.zero_mul, Nat.add_zero, Nat.sub_zero, Nat.one_mul] at hc ho
    have h0 : num ≠ 0 := fun e => by have := (h.zero e).1; omega
    rw [if_neg h0] at hc
    rw [hc]
    cases hx : readM S (base + half) half with
    | none =>
      show (if 0 < num ∧ 0 ≤ num then _ else _) = _
      rw [if_pos (by omega)]; rfl
    | some x =>
      have := ho x hx
      show (if 0 < num ∧ x.1 ≤ num then _ else _) = _
      rw [if_pos (by omega)]; rfl
  · simp only [Nat.zero_mul, Nat.add_zero, Nat.sub_self, Nat.one_mul] at hc ho
    by_cases h0 : num = 0
    · rw [if_pos h0] at hc
      have hz := h.zero h0
      rw [hc]
      cases hx : readM S base half with
      | none =>
        show (if 0 < 0 ∧ 0 ≤ 0 then _ else _) = _
        rw [if_neg (by omega)]; rw [h0, hz.2]; rfl
      | some x => have := ho x hx; omega
    · rw [if_neg h0] at hc
      rw [hc]
      cases hx : readM S base half with
      | none =>
        show (if 0 < 0 ∧ num ≤ 0 then _ else _) = _
        rw [if_neg (by omega)]; rfl
      | some x =>
        have := ho x hx
        show (if 0 < x.1 ∧ num ≤ x.1 then _ else _) = _
        rw [if_neg (by omega)]; rfl
/-- What read answers, valid or not. -/
structure ReadAll (D : Dev) (a half : Nat) (w : World) (p : Option Nat) (w' : World) : Prop where
  at_ : WasAt w' p (readN D.seen a half).2
  new : ∀ b, p = some b → w.heap.size ≤ b
  k : Below w.heap.size w w'
def ReadAny (D : Dev) (a half : Nat) (w : World) (e : Ending) (w' : World) : Prop :=
  ∃ p, e = .returned (.tuple #[.int .i64 ((readN D.seen a half).1 : Int), .map p]) ∧ Box (ReadAll D a half w p w')
theorem pread_all (bd : Nat) (F : Nat → Prop) (D : Dev) (at_ half : Nat) (w : World) (h : DAt w bd F D) (hoff : D.off = false) (h2 : 2 ≤ half) (hfit : at_ + half ≤ D.safe.length) :
    Calls Tryz.prog 42 #[.agg #[.pointer (some ⟨bd, 0, none⟩), .int .i64 (at_ : Int), .int .i64 (half : Int)]] w (ReadAny D at_ half w) := by
  refine (pread_any bd F D at_ half w h hoff h2 hfit).mono ?_
  rintro e w' ⟨hb, ⟨n, c, b, rfl, hY⟩ | ⟨hn, rfl⟩⟩
  · have e1 : readN D.seen at_ half = (n, c) := by unfold readN; rw [hY.is]; rfl
    exact ⟨some b, by rw [e1], ⟨⟨by rw [e1]; exact .inr ⟨b, rfl, hY.at_⟩, fun b' hb' => by cases hb'; exact hY.new, hb⟩⟩⟩
  · have e1 : readN D.seen at_ half = (0, []) := by unfold readN; rw [hn]; rfl
    exact ⟨none, by rw [e1]; rfl, ⟨⟨by rw [e1]; exact .inl ⟨rfl, rfl⟩, fun b' hb' => (by cases hb'), hb⟩⟩⟩

set_option maxHeartbeats 800000 in
theorem open_nil (base half : Int) (w : World) : Calls Tryz.prog 13 #[.pointer none, .int .i64 base, .int .i64 half] w fun e w' => e = .returned (.tuple #[.pointer none, .int .i64 1]) ∧ w = w' := by
  go_enter Tryz.func13, Tryz.ntmps13
  go_wp2_with fail
  go_returns
  exact ⟨rfl, rfl⟩
set_option maxHeartbeats 1600000 in
theorem open_out (bd : Nat) (F : Nat → Prop) (D : Dev) (base half : Int) (w : World) (h : DAt w bd F D) (hb : -9223372036854775808 ≤ base ∧ base ≤ 9223372036854775807) (hh : -9223372036854775808 ≤ half ∧ half ≤ 9223372036854775807) (hin : inR D.safe.length base half = false) :
    Calls Tryz.prog 13 #[.pointer (some ⟨bd, 0, none⟩), .int .i64 base, .int .i64 half] w fun e w' => e = .returned (.tuple #[.pointer none, .int .i64 1]) ∧ w = w' := by
  have hSe := sectors_any bd F D w h
  have hWi := within_any D.safe.length base half w h.ok.n hb hh
  rw [hin] at hWi
  replace hSe := Box.mk hSe
  replace hWi := Box.mk hWi
  clear h hin
  go_enter Tryz.func13, Tryz.ntmps13
  go_wp2_with fail
  refine hSe.out.mono ?_
  rintro e w' ⟨rfl, rfl⟩
  go_wp2_with fail
  refine hWi.out.mono ?_
  rintro e w' ⟨rfl, rfl⟩
  go_wp2_with fail
  go_returns
  exact ⟨rfl, rfl⟩
set_option maxHeartbeats 1600000 in
theorem open_dark (bd : Nat) (F : Nat → Prop) (D : Dev) (base half : Int) (w : World) (h : DAt w bd F D) (hb : -9223372036854775808 ≤ base ∧ base ≤ 9223372036854775807) (hh : -9223372036854775808 ≤ half ∧ half ≤ 9223372036854775807) (hin : inR D.safe.length base half = true) (hoff : D.off = true) :
    Calls Tryz.prog 13 #[.pointer (some ⟨bd, 0, none⟩), .int .i64 base, .int .i64 half] w fun e w' => e = .returned (.tuple #[.pointer none, .int .i64 7]) ∧ w = w' := by
  have hSe := sectors_any bd F D w h
  have hWi := within_any D.safe.length base half w h.ok.n hb hh
  have hOf := off_any bd F D w h
  rw [hin] at hWi
  rw [hoff] at hOf
  replace hSe := Box.mk hSe
  replace hWi := Box.mk hWi
  replace hOf := Box.mk hOf
  clear h hin hoff
  go_enter Tryz.func13, Tryz.ntmps13
  go_wp2_with fail
  refine hSe.out.mono ?_
  rintro e w' ⟨rfl, rfl⟩
  go_wp2_with fail
  refine hWi.out.mono ?_
  rintro e w' ⟨rfl, rfl⟩
  go_wp2_with fail
  refine hOf.out.mono ?_
  rintro e w' ⟨rfl, rfl⟩
  go_wp2_with fail
  go_returns
  exact ⟨rfl, rfl⟩

theorem cells_one {bd b base half m : Nat} {p : Option Nat} {M : CellM} (h1 : M.num = m) (h2 : M.last = 1) (h3 : M.off = false) : cellCells bd b p base half M = [.map (some b), .map p, .int .i64 (m : Int), .pointer (some ⟨bd, 0, none⟩), .int .i64 ((base : Int) + (half : Int)), .int .i64 (half : Int), .pointer (some ⟨bd, 0, none⟩), .int .i64 (base : Int), .int .i64 (half : Int), .bool false] := by
  unfold cellCells
  rw [h1, h2, h3, show ((base + 1 * half : Nat) : Int) = (base : Int) + (half : Int) by omega, show ((base + (1 - 1) * half : Nat) : Int) = (base : Int) by simp]
theorem cells_zero {bd b base half m : Nat} {p : Option Nat} {M : CellM} (h1 : M.num = m) (h2 : M.last = 0) (h3 : M.off = false) : cellCells bd b p base half M = [.map (some b), .map p, .int .i64 (m : Int), .pointer (some ⟨bd, 0, none⟩), .int .i64 (base : Int), .int .i64 (half : Int), .pointer (some ⟨bd, 0, none⟩), .int .i64 ((base : Int) + (half : Int)), .int .i64 (half : Int), .bool false] := by
  unfold cellCells
  rw [h1, h2, h3, show ((base + 0 * half : Nat) : Int) = (base : Int) by simp, show ((base + (1 - 0) * half : Nat) : Int) = (base : Int) + (half : Int) by omega]
theorem open_end {w w8 w9 : World} {bd bc base half : Nat} {p : Option Nat} {M : CellM} {cs : List Value} (hB : Below w.heap.size w w8) (hbc : w.heap.size ≤ bc) (hW : WasAt w8 p M.was) (hp : ∀ b, p = some b → w.heap.size ≤ b) (hb8 : bc < w8.heap.size)
    (hL : UndoLeft w8 bc (.map p) cs M.was w9) (hne : p ≠ some bc) (hcs : ∀ b, .map (some b) :: .map p :: cs = cellCells bd b p base half M) (hMn : M.now = M.was) (hok : M.ok base half) :
    Below w.heap.size w w9 ∧ CelO bd bc base half M w9 (fun k => w.heap.size ≤ k ∧ k < w9.heap.size) := by
  obtain ⟨b2, h1, h2, h3, hc⟩ := hL
  have hs := hB.size
  have hs9 := hc.size
  have hW9 : WasAt w9 p M.was := hW.chg hc fun b hb2 e => hne (by rw [hb2, e])
  refine ⟨hB.trans (hc.below hs fun i hi => hi ▸ hbc), hok, ⟨b2, p, ?_, by rw [hMn]; exact h2, hW9, ⟨by omega, h2.lt⟩, fun b hb => ⟨hp b hb, hW9.lt b hb⟩, fun e => by have := hW.lt _ e; omega⟩, ⟨hbc, by omega⟩, fun k hk => hk.2⟩
  rw [← hcs b2]; exact h3
def plC (bd : Nat) (a h : Int) : List Value := [.pointer (some ⟨bd, 0, none⟩), .int .i64 a, .int .i64 h]
set_option maxHeartbeats 12800000 in
set_option maxRecDepth 100000 in
theorem open_fit (bd : Nat) (F : Nat → Prop) (D : Dev) (base half : Nat) (w : World) (h : DAt w bd F D) (hoff : D.off = false) (h2 : 2 ≤ half) (hin : base + 2 * half ≤ D.safe.length) (M : CellM) (hM : openN D.seen base half = (M.num, M.was, M.last)) (hMn : M.now = M.was) (hMo : M.off = false) (hok : M.ok base half) :
    Calls Tryz.prog 13 #[.pointer (some ⟨bd, 0, none⟩), .int .i64 (base : Int), .int .i64 (half : Int)] w fun e w' => ∃ bc, e = .returned (.tuple #[.pointer (some ⟨bc, 0, none⟩), .int .i64 0]) ∧ Box (Below w.heap.size w w' ∧ CelO bd bc base half M w' (fun k => w.heap.size ≤ k ∧ k < w'.heap.size)) := by
  have hn := h.ok.n
  have hSe := sectors_any bd F D w h
  have hWi := within_any D.safe.length (base : Int) (half : Int) w h.ok.n (by omega) (by omega)
  have hinR : inR D.safe.length (base : Int) (half : Int) = true := by unfold inR; simp; omega
  have hOf := off_any bd F D w h
  rw [hinR] at hWi
  rw [hoff] at hOf
  replace hSe := Box.mk hSe
  replace hWi := Box.mk hWi
  replace hOf := Box.mk hOf
  obtain ⟨b1, hb1⟩ : ∃ b1, w.heap.size = b1 := ⟨_, rfl⟩
  have hP1 : Blk (w.alloc (.cells #[.pointer (some ⟨bd, 0, none⟩), .int .i64 (base : Int), .int .i64 (half : Int)] 67)) b1 (plC bd base half) 67 := by rw [← hb1]; exact Blk.new w _ _
  obtain ⟨w2, hw2⟩ : ∃ w2, (w.alloc (.cells #[.pointer (some ⟨bd, 0, none⟩), .int .i64 (base : Int), .int .i64 (half : Int)] 67)).alloc (.cells #[.pointer (some ⟨bd, 0, none⟩), .int .i64 ((base : Int) + (half : Int)), .int .i64 (half : Int)] 67) = w2 := ⟨_, rfl⟩
  have hP2 : Blk w2 (b1 + 1) (plC bd ((base : Int) + (half : Int)) half) 67 := by
    have h1 := Blk.new (w.alloc (.cells #[.pointer (some ⟨bd, 0, none⟩), .int .i64 (base : Int), .int .i64 (half : Int)] 67)) (plC bd ((base : Int) + (half : Int)) half) 67
    have h2 : (w.alloc (.cells #[.pointer (some ⟨bd, 0, none⟩), .int .i64 (base : Int), .int .i64 (half : Int)] 67)).heap.size = b1 + 1 := by rw [← hb1]; simp
    rw [h2] at h1
    rw [← hw2]; exact h1
  have hP12 : Blk w2 b1 (plC bd base half) 67 := by rw [← hw2]; exact hP1.chg0 _
  have hB2 : Below w.heap.size w w2 := by rw [← hw2]; exact ((Below.refl _ _).alloc (Nat.le_refl _) _).alloc (by simp) _
  obtain ⟨w3, hw3⟩ : ∃ w3, w2.alloc (.cells #[.map none, .map none, .int .i64 0, .pointer (some ⟨bd, 0, none⟩), .int .i64 ((base : Int) + (half : Int)), .int .i64 (half : Int), .pointer (some ⟨bd, 0, none⟩), .int .i64 (base : Int), .int .i64 (half : Int), .bool false] 69) = w3 := ⟨_, rfl⟩
  obtain ⟨bc, hbc⟩ : ∃ bc, w2.heap.size = bc := ⟨_, rfl⟩
  have hP3 : Box (Blk w3 bc [.map none, .map none, .int .i64 0, .pointer (some ⟨bd, 0, none⟩), .int .i64 ((base : Int) + (half : Int)), .int .i64 (half : Int), .pointer (some ⟨bd, 0, none⟩), .int .i64 (base : Int), .int .i64 (half : Int), .bool false] 69) := ⟨by rw [← hw3, ← hbc]; exact Blk.new w2 _ _⟩
  have hP13 : Box (Blk w3 b1 (plC bd base half) 67) := ⟨by rw [← hw3]; exact hP12.chg0 _⟩
  have hP23 : Box (Blk w3 (b1 + 1) (plC bd ((base : Int) + (half : Int)) half) 67) := ⟨by rw [← hw3]; exact hP2.chg0 _⟩
  have hB3 : Box (Below w.heap.size w w3) := ⟨by rw [← hw3]; exact hB2.alloc hB2.size _⟩
  have c10 : w2.cell? ⟨b1, 0, none⟩ = some (.pointer (some ⟨bd, 0, none⟩)) := hP12.cell 0
  have c11 : w2.cell? ⟨b1, 1, none⟩ = some (.int .i64 (base : Int)) := hP12.cell 1
  have c12 : w2.cell? ⟨b1, 2, none⟩ = some (.int .i64 (half : Int)) := hP12.cell 2
  have c20 : w2.cell? ⟨b1 + 1, 0, none⟩ = some (.pointer (some ⟨bd, 0, none⟩)) := hP2.cell 0
  have c21 : w2.cell? ⟨b1 + 1, 1, none⟩ = some (.int .i64 ((base : Int) + (half : Int))) := hP2.cell 1
  have c22 : w2.cell? ⟨b1 + 1, 2, none⟩ = some (.int .i64 (half : Int)) := hP2.cell 2
  have hne : Box (b1 ≠ bc ∧ b1 + 1 ≠ bc ∧ w.heap.size ≤ b1 ∧ w.heap.size ≤ bc) := ⟨by
    have h2 := hP2.lt
    have h4 := hB2.size
    omega⟩
  replace hP1 := Box.mk hP1
  replace hP2 := Box.mk hP2
  replace hP12 := Box.mk hP12
  replace hB2 := Box.mk hB2
  replace h := Box.mk h
  replace hoff := Box.mk hoff
  replace hM := Box.mk hM
  replace hMn := Box.mk hMn
  replace hMo := Box.mk hMo
  replace hok := Box.mk hok
  clear hinR
  go_enter Tryz.func13, Tryz.ntmps13
  go_wp2_with fail
  refine hSe.out.mono ?_
  rintro e w' ⟨rfl, rfl⟩
  go_wp2_with fail
  refine hWi.out.mono ?_
  rintro e w' ⟨rfl, rfl⟩
  go_wp2_with fail
  refine hOf.out.mono ?_
  rintro e w' ⟨rfl, rfl⟩
  have e20 : w3.cell? ⟨b1 + 1, 0, none⟩ = some (.pointer (some ⟨bd, 0, none⟩)) := hP23.out.cell 0
  have e21 : w3.cell? ⟨b1 + 1, 1, none⟩ = some (.int .i64 ((base : Int) + (half : Int))) := hP23.out.cell 1
  have e22 : w3.cell? ⟨b1 + 1, 2, none⟩ = some (.int .i64 (half : Int)) := hP23.out.cell 2
  have hRm := pread_all bd F D (base + half) half w3 (h.out.below hB3.out) hoff.out h2 (by omega)
  rw [show ((base + half : Nat) : Int) = (base : Int) + (half : Int) by omega] at hRm
  replace hRm := Box.mk hRm
  go_wp2_with fail
  refine hRm.out.mono ?_
  rintro e w4 ⟨pm, rfl, hm⟩
  obtain ⟨m, hmm⟩ : ∃ m, (readN D.seen (base + half) half).1 = m := ⟨_, rfl⟩
  rw [hmm]
  replace hmm := Box.mk hmm
  have hB4 : Box (Below w.heap.size w w4) := ⟨hB3.out.trans (hm.out.k.mono hB3.out.size)⟩
  have hb4 : Blk w4 bc _ _ := (hm.out.k.block _ hP3.out.lt).trans hP3.out
  have hP14 : Box (Blk w4 b1 (plC bd base half) 67) := ⟨(hm.out.k.block _ hP13.out.lt).trans hP13.out⟩
  have hP24 : Box (Blk w4 (b1 + 1) (plC bd ((base : Int) + (half : Int)) half) 67) := ⟨(hm.out.k.block _ hP23.out.lt).trans hP23.out⟩
  have d1 : w4.cell? ⟨bc, 1, none⟩ = some (.map none) := hb4.cell 1
  have d2 : w4.cell? ⟨bc, 2, none⟩ = some (.int .i64 0) := hb4.cell 2
  have f1 : w4.frozen? ⟨bc, 1, none⟩ = false := hb4.free 1
  have f2 : w4.frozen? ⟨bc, 2, none⟩ = false := hb4.free 2
  obtain ⟨w5, hw5⟩ : ∃ w5, (w4.setCell ⟨bc, 2, none⟩ (.int .i64 (m : Int))).setCell ⟨bc, 1, none⟩ (.map pm) = w5 := ⟨_, rfl⟩
  have hb5 : Box (Blk w5 bc [.map none, .map pm, .int .i64 (m : Int), .pointer (some ⟨bd, 0, none⟩), .int .i64 ((base : Int) + (half : Int)), .int .i64 (half : Int), .pointer (some ⟨bd, 0, none⟩), .int .i64 (base : Int), .int .i64 (half : Int), .bool false] 69) := ⟨by rw [← hw5]; exact (hb4.setCell 2 _).setCell 1 _⟩
  have hC5 : Box (Chg (fun k => k = bc) w4 w5) := ⟨by rw [← hw5]; exact chg2 w4 bc 2 1 _ _⟩
  have hP15 := Box.mk (hC5.out.blk hP14.out hne.out.1)
  have hP25 := Box.mk (hC5.out.blk hP24.out hne.out.2.1)
  have hB5 : Box (Below w.heap.size w w5) := ⟨hB4.out.trans (hC5.out.below hB4.out.size fun i hi => hi ▸ hne.out.2.2.2)⟩
  have hWm : Box (WasAt w5 pm (readN D.seen (base + half) half).2) := ⟨hm.out.at_.chg hC5.out fun b hb e => by have h6 := hm.out.new b hb; have h7 := hP3.out.lt; omega⟩
  have hnm : Box (∀ b, pm = some b → w.heap.size ≤ b ∧ b ≠ bc) := ⟨fun b hb => by have h6 := hm.out.new b hb; have h7 := hP3.out.lt; have h8 := hB3.out.size; omega⟩
  have e10 : w5.cell? ⟨b1, 0, none⟩ = some (.pointer (some ⟨bd, 0, none⟩)) := hP15.out.cell 0
  have e11 : w5.cell? ⟨b1, 1, none⟩ = some (.int .i64 (base : Int)) := hP15.out.cell 1
  have e12 : w5.cell? ⟨b1, 2, none⟩ = some (.int .i64 (half : Int)) := hP15.out.cell 2
  have hRn := Box.mk (pread_all bd F D base half w5 (h.out.below hB5.out) hoff.out h2 (by omega))
  replace hb4 := Box.mk hb4
  clear hRm hm e20 e21 e22 c10 c11 c12 c20 c21 c22 hw2 hw3
  go_wp2_with fail
  refine hRn.out.mono ?_
  rintro e w6 ⟨pn, rfl, hr⟩
  obtain ⟨n, hnn⟩ : ∃ n, (readN D.seen base half).1 = n := ⟨_, rfl⟩
  rw [hnn]
  replace hnn := Box.mk hnn
  have hB6 : Box (Below w.heap.size w w6) := ⟨hB5.out.trans (hr.out.k.mono hB5.out.size)⟩
  have hb6 : Blk w6 bc _ _ := (hr.out.k.block _ hb5.out.lt).trans hb5.out
  have hP16 : Box (Blk w6 b1 (plC bd base half) 67) := ⟨(hr.out.k.block _ hP15.out.lt).trans hP15.out⟩
  have hP26 : Box (Blk w6 (b1 + 1) (plC bd ((base : Int) + (half : Int)) half) 67) := ⟨(hr.out.k.block _ hP25.out.lt).trans hP25.out⟩
  have hWn : Box (WasAt w6 pn (readN D.seen base half).2) := ⟨hr.out.at_⟩
  have hnn2 : Box (∀ b, pn = some b → w.heap.size ≤ b ∧ b ≠ bc) := ⟨fun b hb => by have h6 := hr.out.new b hb; have h7 := hb5.out.lt; have h8 := hB5.out.size; omega⟩
  have hWm6 : Box (WasAt w6 pm (readN D.seen (base + half) half).2) := ⟨hWm.out.chg (Chg.of_below hr.out.k) fun b hb => by have := hWm.out.lt b hb; omega⟩
  clear hRn hr d1 d2 f1 f2 e10 e11 e12 hw5
  have d2 : w6.cell? ⟨bc, 2, none⟩ = some (.int .i64 (m : Int)) := hb6.cell 2
  by_cases hcase : 0 < n ∧ m ≤ n
  · obtain ⟨hn0, hmn⟩ := hcase
    have hopen : Box (M.num = n ∧ M.was = (readN D.seen base half).2 ∧ M.last = 0) := ⟨by
      have h9 := hM.out
      unfold openN at h9
      rw [hnn.out, hmm.out, if_pos ⟨hn0, hmn⟩] at h9
      simp only [Prod.mk.injEq] at h9
      exact ⟨h9.1.symm, h9.2.1.symm, h9.2.2.symm⟩⟩
    have hmn2 : (m : Int) ≤ (n : Int) := by omega
    have d1 : w6.cell? ⟨bc, 1, none⟩ = some (.map pm) := hb6.cell 1
    have f1 : w6.frozen? ⟨bc, 1, none⟩ = false := hb6.free 1
    have f2 : w6.frozen? ⟨bc, 2, none⟩ = false := hb6.free 2
    obtain ⟨w7, hw7⟩ : ∃ w7, (w6.setCell ⟨bc, 2, none⟩ (.int .i64 (n : Int))).setCell ⟨bc, 1, none⟩ (.map pn) = w7 := ⟨_, rfl⟩
    have hb7 : Box (Blk w7 bc [.map none, .map pn, .int .i64 (n : Int), .pointer (some ⟨bd, 0, none⟩), .int .i64 ((base : Int) + (half : Int)), .int .i64 (half : Int), .pointer (some ⟨bd, 0, none⟩), .int .i64 (base : Int), .int .i64 (half : Int), .bool false] 69) := ⟨by rw [← hw7]; exact (hb6.setCell 2 _).setCell 1 _⟩
    have hC7 : Box (Chg (fun k => k = bc) w6 w7) := ⟨by rw [← hw7]; exact chg2 w6 bc 2 1 _ _⟩
    have hP17 := Box.mk (hC7.out.blk hP16.out hne.out.1)
    have hP27 := Box.mk (hC7.out.blk hP26.out hne.out.2.1)
    replace hb6 := Box.mk hb6
    go_wp2_with fail
    clear hw7 d1 d2 f1 f2
    refine region_go (C := fun w' => Blk w' b1 (plC bd base half) 67 ∧ Blk w' (b1 + 1) (plC bd ((base : Int) + (half : Int)) half) 67) rfl ?_
    have hbd7 : Box (Blk w7.drew bc _ 69) := ⟨hb7.out⟩
    have hCd7 : Box (Chg (fun k => k = bc) w6 w7.drew) := ⟨hC7.out.drew⟩
    have hPd7 : Box (Blk w7.drew b1 (plC bd base half) 67 ∧ Blk w7.drew (b1 + 1) (plC bd ((base : Int) + (half : Int)) half) 67) := ⟨hP17.out, hP27.out⟩
    generalize w7.drew = wd at hbd7 hCd7 hPd7 ⊢
    clear hb7 hC7 hP17 hP27
    refine go_calms [0, 1, 2, 3, 4, 5] 4 rfl (by kernel_rfl) (by kernel_rfl) (by kernel_rfl) hPd7.out ?_
    simp [nth]
    try simp only [Act.put]
    repeat (go_big_quiet_step (first | exact fun _ => rfl | exact fun _ _ => rfl | rfl))
    refine quiet_any rfl (.agg #[.pointer (some ⟨bd, 0, none⟩), .int .i64 (base : Int), .int .i64 (half : Int)]) (fun w' hw' => by
      have c0 : w'.cell? ⟨b1, 0, none⟩ = some (.pointer (some ⟨bd, 0, none⟩)) := hw'.1.cell 0
      have c1 : w'.cell? ⟨b1, 1, none⟩ = some (.int .i64 (base : Int)) := hw'.1.cell 1
      have c2 : w'.cell? ⟨b1, 2, none⟩ = some (.int .i64 (half : Int)) := hw'.1.cell 2
      go_simp) ?_
    simp only [Act.put, List.setIfInBounds_toArray, List.set_cons_succ, List.set_cons_zero]
    refine quiet_any rfl (.agg #[.pointer (some ⟨bd, 0, none⟩), .int .i64 ((base : Int) + (half : Int)), .int .i64 (half : Int)]) (fun w' hw' => by
      have c0 : w'.cell? ⟨b1 + 1, 0, none⟩ = some (.pointer (some ⟨bd, 0, none⟩)) := hw'.2.cell 0
      have c1 : w'.cell? ⟨b1 + 1, 1, none⟩ = some (.int .i64 ((base : Int) + (half : Int))) := hw'.2.cell 1
      have c2 : w'.cell? ⟨b1 + 1, 2, none⟩ = some (.int .i64 (half : Int)) := hw'.2.cell 2
      go_simp) ?_
    simp only [Act.put, List.setIfInBounds_toArray, List.set_cons_succ, List.set_cons_zero]
    repeat (go_big_quiet_step (first | exact fun _ => rfl | exact fun _ _ => rfl | rfl))
    refine wpQuiet_nil ?_
    have d3 : wd.cell? ⟨bc, 3, none⟩ = some (.pointer (some ⟨bd, 0, none⟩)) := hbd7.out.cell 3
    have d4 : wd.cell? ⟨bc, 4, none⟩ = some (.int .i64 ((base : Int) + (half : Int))) := hbd7.out.cell 4
    have d5 : wd.cell? ⟨bc, 5, none⟩ = some (.int .i64 (half : Int)) := hbd7.out.cell 5
    have f3 : wd.frozen? ⟨bc, 3, none⟩ = false := hbd7.out.free 3
    have f4 : wd.frozen? ⟨bc, 4, none⟩ = false := hbd7.out.free 4
    have f5 : wd.frozen? ⟨bc, 5, none⟩ = false := hbd7.out.free 5
    refine go_forced 6 (by kernel_rfl) (goOp_wp 6 rfl rfl (fun K hK => ?_))
    go_simp
    have hb8 : Blk ((wd.setCell ⟨bc, 3, none⟩ (.pointer (some ⟨bd, 0, none⟩))).setCell ⟨bc, 4, none⟩ (.int .i64 (base : Int))|>.setCell ⟨bc, 5, none⟩ (.int .i64 (half : Int))) bc [.map none, .map pn, .int .i64 (n : Int), .pointer (some ⟨bd, 0, none⟩), .int .i64 (base : Int), .int .i64 (half : Int), .pointer (some ⟨bd, 0, none⟩), .int .i64 (base : Int), .int .i64 (half : Int), .bool false] 69 := ((hbd7.out.setCell 3 _).setCell 4 _).setCell 5 _
    have hC8 := Box.mk (chg_three wd bc 3 4 5 (.pointer (some ⟨bd, 0, none⟩)) (.int .i64 (base : Int)) (.int .i64 (half : Int)))
    generalize ((wd.setCell ⟨bc, 3, none⟩ (.pointer (some ⟨bd, 0, none⟩))).setCell ⟨bc, 4, none⟩ (.int .i64 (base : Int))).setCell ⟨bc, 5, none⟩ (.int .i64 (half : Int)) = w8 at hb8 hC8 ⊢
    have hP8 : Box (Blk w8 b1 (plC bd base half) 67 ∧ Blk w8 (b1 + 1) (plC bd ((base : Int) + (half : Int)) half) 67) := ⟨hC8.out.blk hPd7.out.1 hne.out.1, hC8.out.blk hPd7.out.2 hne.out.2.1⟩
    refine hK _ _ hP8.out ?_
    clear hK K d3 d4 d5 f3 f4 f5
    have d6 : w8.cell? ⟨bc, 6, none⟩ = some (.pointer (some ⟨bd, 0, none⟩)) := hb8.cell 6
    have d7 : w8.cell? ⟨bc, 7, none⟩ = some (.int .i64 (base : Int)) := hb8.cell 7
    have d8 : w8.cell? ⟨bc, 8, none⟩ = some (.int .i64 (half : Int)) := hb8.cell 8
    have f6 : w8.frozen? ⟨bc, 6, none⟩ = false := hb8.free 6
    have f7 : w8.frozen? ⟨bc, 7, none⟩ = false := hb8.free 7
    have f8 : w8.frozen? ⟨bc, 8, none⟩ = false := hb8.free 8
    replace hb8 := Box.mk hb8
    try simp only [Act.put]
    refine go_calms [7, 8] 1 rfl (by kernel_rfl) (by kernel_rfl) (by kernel_rfl) hP8.out ?_
    simp [nth]
    try simp only [Act.put]
    repeat (go_big_quiet_step (first | exact fun _ => rfl | exact fun _ _ => rfl | rfl))
    refine wpQuiet_nil ?_
    refine go_forced 9 (by kernel_rfl) (goOp_wp 9 rfl rfl (fun K hK => ?_))
    go_simp
    have hb9 : Blk ((w8.setCell ⟨bc, 6, none⟩ (.pointer (some ⟨bd, 0, none⟩))).setCell ⟨bc, 7, none⟩ (.int .i64 ((base : Int) + (half : Int)))|>.setCell ⟨bc, 8, none⟩ (.int .i64 (half : Int))) bc (.map none :: .map pn :: [.int .i64 (n : Int), .pointer (some ⟨bd, 0, none⟩), .int .i64 (base : Int), .int .i64 (half : Int), .pointer (some ⟨bd, 0, none⟩), .int .i64 ((base : Int) + (half : Int)), .int .i64 (half : Int), .bool false]) 69 := ((hb8.out.setCell 6 _).setCell 7 _).setCell 8 _
    have hC9 := Box.mk (chg_three w8 bc 6 7 8 (.pointer (some ⟨bd, 0, none⟩)) (.int .i64 ((base : Int) + (half : Int))) (.int .i64 (half : Int)))
    generalize ((w8.setCell ⟨bc, 6, none⟩ (.pointer (some ⟨bd, 0, none⟩))).setCell ⟨bc, 7, none⟩ (.int .i64 ((base : Int) + (half : Int)))).setCell ⟨bc, 8, none⟩ (.int .i64 (half : Int)) = wt at hb9 hC9 ⊢
    refine hK _ _ ⟨hC9.out.blk hP8.out.1 hne.out.1, hC9.out.blk hP8.out.2 hne.out.2.1⟩ ?_
    clear hK K d6 d7 d8 f6 f7 f8
    have hCt : Box (Chg (fun k => k = bc) w6 wt) := ⟨(hCd7.out.trans hC8.out fun _ _ h => h).trans hC9.out fun _ _ h => h⟩
    have hBt : Box (Below w.heap.size w wt) := ⟨hB6.out.trans (hCt.out.below hB6.out.size fun i hi => hi ▸ hne.out.2.2.2)⟩
    have hWt : Box (WasAt wt pn (readN D.seen base half).2) := ⟨hWn.out.chg hCt.out fun b hb => (hnn2.out b hb).2⟩
    have hUn := undo_map bc _ pn _ (readN D.seen base half).2 wt hb9 hWt.out (fun e => (hnn2.out bc e).2 rfl) (by rw [← hopen.out.2.1]; exact hok.out.was)
    replace hUn := Box.mk hUn
    replace hb9 := Box.mk hb9
    refine go_done (by kernel_rfl) ?_
    go_wp2_with fail
    refine hUn.out.mono ?_
    rintro e w9 ⟨rfl, hL⟩
    have hEnd : Box (Below w.heap.size w w9 ∧ CelO bd bc base half M w9 (fun k => w.heap.size ≤ k ∧ k < w9.heap.size)) := ⟨open_end hBt.out hne.out.2.2.2 (by rw [hopen.out.2.1]; exact hWt.out) (fun b hb => (hnn2.out b hb).1) hb9.out.lt (by rw [hopen.out.2.1]; exact hL.out) (fun e => (hnn2.out bc e).2 rfl) (fun b => (cells_zero hopen.out.1 hopen.out.2.2 hMo.out).symm) hMn.out hok.out⟩
    clear hL hUn
    go_wp2_with fail
    go_returns
    exact ⟨bc, rfl, hEnd⟩
  · have hopen : Box (M.num = m ∧ M.was = (readN D.seen (base + half) half).2 ∧ M.last = 1) := ⟨by
      have h9 := hM.out
      unfold openN at h9
      rw [hnn.out, hmm.out, if_neg hcase] at h9
      simp only [Prod.mk.injEq] at h9
      exact ⟨h9.1.symm, h9.2.1.symm, h9.2.2.symm⟩⟩
    have hUn := undo_map bc _ pm _ (readN D.seen (base + half) half).2 w6 hb6 hWm6.out (fun e => (hnm.out bc e).2 rfl) (by rw [← hopen.out.2.1]; exact hok.out.was)
    replace hUn := Box.mk hUn
    by_cases hn0 : 0 < n
    · have hmn : ¬ (m : Int) ≤ (n : Int) := by omega
      replace hb6 := Box.mk hb6
      replace hcase := Box.mk hcase
      go_wp2_with fail
      refine hUn.out.mono ?_
      rintro e w9 ⟨rfl, hL⟩
      have hEnd : Box (Below w.heap.size w w9 ∧ CelO bd bc base half M w9 (fun k => w.heap.size ≤ k ∧ k < w9.heap.size)) := ⟨open_end hB6.out hne.out.2.2.2 (by rw [hopen.out.2.1]; exact hWm6.out) (fun b hb => (hnm.out b hb).1) hb6.out.lt (by rw [hopen.out.2.1]; exact hL.out) (fun e => (hnm.out bc e).2 rfl) (fun b => (cells_one hopen.out.1 hopen.out.2.2 hMo.out).symm) hMn.out hok.out⟩
      clear hL hUn d2
      go_wp2_with fail
      go_returns
      exact ⟨bc, rfl, hEnd⟩
    · replace hb6 := Box.mk hb6
      replace hcase := Box.mk hcase
      go_wp2_with fail
      refine hUn.out.mono ?_
      rintro e w9 ⟨rfl, hL⟩
      have hEnd : Box (Below w.heap.size w w9 ∧ CelO bd bc base half M w9 (fun k => w.heap.size ≤ k ∧ k < w9.heap.size)) := ⟨open_end hB6.out hne.out.2.2.2 (by rw [hopen.out.2.1]; exact hWm6.out) (fun b hb => (hnm.out b hb).1) hb6.out.lt (by rw [hopen.out.2.1]; exact hL.out) (fun e => (hnm.out bc e).2 rfl) (fun b => (cells_one hopen.out.1 hopen.out.2.2 hMo.out).symm) hMn.out hok.out⟩
      clear hL hUn d2
      go_wp2_with fail
      go_returns
      exact ⟨bc, rfl, hEnd⟩
end Go.Proofs.YtoaipjpbioaneaaGreat
