/- Two devices side by side; what alike tells of equal ones. -/
import Derived.Test.YtcccokdbgmejdaaFcB
namespace Go.Proofs.Ytcccokdbgmejdaa
open Go.RowKit

structure Pair (B : Nat) (X : Nat → Prop) (w : World) (bd bc : Nat) (D C : Dev) : Prop where
  out : ∃ Fd Fc, DAt w bd Fd D ∧ DAt w bc Fc C ∧ (∀ k, Fd k → B ≤ k ∧ ¬ X k) ∧ (∀ k, Fc k → B ≤ k ∧ ¬ X k) ∧ ∀ k, Fd k → ¬ Fc k
  x : ∀ k, X k → k < w.heap.size
  b : B ≤ w.heap.size
section
variable {B : Nat} {X : Nat → Prop} {w w' : World} {bd bc : Nat} {D C D' : Dev}
theorem Pair.symm (h : Pair B X w bd bc D C) : Pair B X w bc bd C D := by
  obtain ⟨Fd, Fc, h1, h2, h3, h4, h5⟩ := h.out
  exact ⟨⟨Fc, Fd, h2, h1, h4, h3, fun k hc hd => h5 k hd hc⟩, h.x, h.b⟩
theorem Pair.left (h : Pair B X w bd bc D C) : ∃ Y, DV B Y w bd D ∧ (∀ k, X k → Y k) ∧ ∀ w' D', DV B Y w' bd D' → Others B Y w w' → Pair B X w' bd bc D' C ∧ Others B X w w' := by
  obtain ⟨Fd, Fc, h1, h2, h3, h4, h5⟩ := h.out
  refine ⟨fun k => X k ∨ Fc k, ⟨⟨Fd, h1, fun k hk => ⟨(h3 k hk).1, fun hx => ?_⟩⟩, fun k hk => ?_, h.b⟩, fun k hk => .inl hk, fun w' D' hv ho => ⟨?_, ho.mono fun k _ hk => ⟨hk.1, fun hx => hk.2 (.inl hx)⟩⟩⟩
  · rcases hx with hx | hx
    · exact (h3 k hk).2 hx
    · exact h5 k hk hx
  · rcases hk with hk | hk
    · exact h.x k hk
    · exact h2.lt k hk
  · obtain ⟨F, hF, h6⟩ := hv.out
    exact ⟨⟨F, Fc, hF, h2.chg ho (fun k hk hs => hs.2 (.inr hk)), fun k hk => ⟨(h6 k hk).1, fun hx => (h6 k hk).2 (.inl hx)⟩, h4, fun k hk hc => (h6 k hk).2 (.inr hc)⟩, fun k hk => hv.x k (.inl hk), hv.b⟩
theorem Pair.keep (h : Pair B X w bd bc D C) (hb : Below w.heap.size w w') (Y : Nat → Prop) (hY : ∀ k, Y k → X k ∨ (w.heap.size ≤ k ∧ k < w'.heap.size)) : Pair B Y w' bd bc D C := by
  obtain ⟨Fd, Fc, h1, h2, h3, h4, h5⟩ := h.out
  have hs := hb.size
  refine ⟨⟨Fd, Fc, h1.below hb, h2.below hb, fun k hk => ⟨(h3 k hk).1, fun hy => ?_⟩, fun k hk => ⟨(h4 k hk).1, fun hy => ?_⟩, h5⟩, fun k hk => ?_, Nat.le_trans h.b hs⟩
  · rcases hY k hy with h6 | h6
    · exact (h3 k hk).2 h6
    · have := h1.lt k hk; omega
  · rcases hY k hy with h6 | h6
    · exact (h4 k hk).2 h6
    · have := h2.lt k hk; omega
  · rcases hY k hk with h6 | h6
    · have := h.x k h6; omega
    · exact h6.2
theorem Pair.less (h : Pair B X w bd bc D C) (Y : Nat → Prop) (hY : ∀ k, Y k → X k) : Pair B Y w bd bc D C := h.keep (Below.refl _ _) Y fun k hk => .inl (hY k hk)
theorem Pair.crash (h : Pair B X w bd bc D C) (v : Value) (keep : List Int) (h0 : 0 < D.safe.length) (hws : D.ws.length ≤ 1000000) (hI : Ints w (fun k => k < B ∨ X k) v keep) (hkl : keep.length ≤ 9223372036854775807) :
    Calls Try.prog 18 #[.pointer (some ⟨bd, 0, none⟩), .agg #[v]] w fun e w' => e = .returned (.tuple #[]) ∧ Box (Pair B X w' bd bc (D.crash keep) C) ∧ Box (Others B X w w') := by
  obtain ⟨Y, hv, hY, hk⟩ := h.left
  exact (hv.crash v keep h0 hws (hI.less fun k hk => hk.imp id (hY k)) hkl).mono fun e w' ⟨a, b, c⟩ => ⟨a, ⟨(hk _ _ b.out c.out).1⟩, ⟨(hk _ _ b.out c.out).2⟩⟩
theorem Pair.does (h : Pair B X w bd bc D C) (c : Nat) (o : OpD) (va : Option Addr) (vc : Nat) (hc : D9 c D) (hc1 : c ≤ 1000) (ho : o.ok) (hI : Ints w (fun k => k < B) (.slice va o.f.length vc) o.f) :
    Calls Try.prog 24 #[.pointer (some ⟨bd, 0, none⟩), .agg #[.int .u8 (o.k.toNat : Int), .int .i64 o.n, .string o.s, .slice va o.f.length vc]] w fun e w' => e = .returned (.tuple #[.string (o.txt D), .int .i64 (o.err D)]) ∧ Box (Pair B X w' bd bc (o.dev D) C) ∧ Box (Others B X w w') := by
  obtain ⟨Y, hv, hY, hk⟩ := h.left
  exact (does_any B Y bd D w c o va vc hv hc hc1 ho hI).mono fun e w' ⟨a, b, d⟩ => ⟨a, ⟨(hk _ _ b.out d.out).1⟩, ⟨(hk _ _ b.out d.out).2⟩⟩
end
/-- In alike's loop: both are as D. -/
structure AL (B : Nat) (X : Nat → Prop) (w0 : World) (bd bc b1 b2 : Nat) (D : Dev) (w : World) : Prop where
  p : Pair B (fun k => X k ∨ k = b1 ∨ k = b2) w bd bc D D
  d : D9 1000 D
  i1 : Blk w b1 [.int .i64 3, .int .i64 64] 3
  i2 : Blk w b2 [.slice none 0 0, .slice (some ⟨b1, 0, none⟩) 2 2] 30
  ch : Others B X w0 w
set_option maxHeartbeats 3200000 in
set_option maxRecDepth 100000 in
theorem alike_any (B : Nat) (X : Nat → Prop) (w : World) (bd bc : Nat) (D : Dev) (hP : Pair B X w bd bc D D) (hd : D9 1000 D) :
    Calls Try.prog 25 #[.pointer (some ⟨bd, 0, none⟩), .pointer (some ⟨bc, 0, none⟩)] w fun e w' => e = .returned (.bool true) ∧ Box (Others B X w w') := by
  obtain ⟨wa, hwa⟩ : ∃ wa, w.alloc (.cells #[.int .i64 3, .int .i64 64] 3) = wa := ⟨_, rfl⟩
  obtain ⟨b1, hb1⟩ : ∃ b1, w.heap.size = b1 := ⟨_, rfl⟩
  obtain ⟨b2, hb2⟩ : ∃ b2, wa.heap.size = b2 := ⟨_, rfl⟩
  obtain ⟨wb, hwb⟩ : ∃ wb, wa.alloc (.cells #[.slice none 0 0, .slice (some ⟨b1, 0, none⟩) 2 2] 30) = wb := ⟨_, rfl⟩
  have hA : Box (AL B X w bd bc b1 b2 D wb) := ⟨by
    have k1 : Below w.heap.size w wa := hwa ▸ (Below.refl _ _).alloc (Nat.le_refl _) _
    have k2 : Below wa.heap.size wa wb := hwb ▸ (Below.refl _ _).alloc (Nat.le_refl _) _
    have n1 := Blk.new w [.int .i64 3, .int .i64 64] 3
    rw [hwa, hb1] at n1
    have n2 := Blk.new wa [.slice none 0 0, .slice (some ⟨b1, 0, none⟩) 2 2] 30
    rw [hwb, hb2] at n2
    have n3 := (k2.block b1 n1.lt).trans n1
    have k3 : Below w.heap.size w wb := k1.trans (k2.mono k1.size)
    have l1 := n1.lt
    have l2 := n2.lt
    refine ⟨hP.keep k3 _ fun k hk => ?_, hd, n3, n2, (Chg.of_below k3).mono fun k h1 h2 => by omega⟩
    rcases hk with hk | hk | hk
    · exact .inl hk
    · exact .inr (by have := k2.size; omega)
    · exact .inr (by have := k1.size; omega)⟩
  clear hP hd
  go_enter Try.func25, Try.ntmps25
  go_wp2_with fail
  go_loopw [17] (fun s17 wr => ∃ (i : Nat) (D : Dev), i ≤ 2 ∧ s17 = .int .i64 i ∧ Box (AL B X w bd bc b1 b2 D wr)) (fun s17 _ => 2 - (intOf s17).toNat)
  case atStart => exact ⟨0, D, by omega, rfl, hA⟩
  case round =>
    clear hA
    obtain ⟨i, D, hi, rfl, hK⟩ := hrel
    by_cases hlt : i < 2
    · have hv : ∃ v l, Box ((l : List Int).length ≤ 2) ∧ wr.cell? ⟨b2, i, none⟩ = some v ∧ Ints wr (fun k => k < B ∨ (X k ∨ k = b1 ∨ k = b2)) v l := by
        rcases (show i = 0 ∨ i = 1 by omega) with rfl | rfl
        · exact ⟨_, [], ⟨by decide⟩, hK.out.i2.cell 0, ⟨none, 0, rfl, fun h => by cases h⟩⟩
        · refine ⟨_, [3, 64], ⟨by decide⟩, hK.out.i2.cell 1, ⟨_, 2, rfl, fun _ => ⟨b1, 0, rfl, hK.out.i1.lt, .inr (.inr (.inl rfl)), fun j hj => ?_⟩⟩⟩
          rcases (show j = 0 ∨ j = 1 by simp at hj; omega) with rfl | rfl
          · exact hK.out.i1.cell 0
          · exact hK.out.i1.cell 1
      obtain ⟨v, l, hl, hcell, hI⟩ := hv
      have hI2 := hI
      obtain ⟨va, vc, rfl, -⟩ := hI.out
      clear hI
      obtain ⟨wn, hwn⟩ : ∃ wn, wr.alloc (.cells #[.slice va l.length vc] 30) = wn := ⟨_, rfl⟩
      obtain ⟨bo, hbo⟩ : ∃ bo, wr.heap.size = bo := ⟨_, rfl⟩
      have hnew := Blk.new wr [.slice va l.length vc] 30
      rw [hwn, hbo] at hnew
      have hbn : Below wr.heap.size wr wn := hwn ▸ (Below.refl _ _).alloc (Nat.le_refl _) _
      have hP := hK.out.p.keep hbn (fun k => (X k ∨ k = b1 ∨ k = b2) ∨ k = bo) (fun k hk => hk.imp id (fun h => by have := hnew.lt; omega))
      have hI3 := (hI2.chg (Chg.of_below hbn) (fun k hk _ => by omega)).less (fun k hk => hk.imp id Or.inl : ∀ k, _ → (k < B ∨ ((X k ∨ k = b1 ∨ k = b2) ∨ k = bo)))
      have hCr := Box.mk (hP.crash _ l (by rw [hK.out.d.s]; omega) (by have := hK.out.d.w; omega) hI3 (by have := hl.out; omega))
      obtain ⟨Y1, hv1, -⟩ := hP.left
      obtain ⟨Y2, hv2, -⟩ := hP.symm.left
      have p1 := Box.mk hv1.pending
      have p2 := Box.mk hv2.pending
      have p3 := Box.mk hv1.steps
      have p4 := Box.mk hv2.steps
      have p5 := Box.mk hv1.off
      have p6 := Box.mk hv2.off
      have r1 := Box.mk hv1.read
      have r2 := Box.mk hv2.read
      have c0 : wn.cell? ⟨bo, 0, none⟩ = some (.slice va l.length vc) := hnew.cell 0
      have hbnB := Box.mk hbn
      replace hP := Box.mk hP
      replace hI3 := Box.mk hI3
      replace hnew := Box.mk hnew
      clear hI2 hv1 hv2 hbn
      generalize hvl : l.length = vl at *
      go_wp2_with fail
      refine p1.out.mono ?_
      rintro e w' ⟨rfl, rfl⟩
      go_wp2_with fail
      refine p2.out.mono ?_
      rintro e w' ⟨rfl, rfl⟩
      go_wp2_with fail
      refine p3.out.mono ?_
      rintro e w' ⟨rfl, rfl⟩
      go_wp2_with fail
      refine p4.out.mono ?_
      rintro e w' ⟨rfl, rfl⟩
      go_wp2_with fail
      refine p5.out.mono ?_
      rintro e w' ⟨rfl, rfl⟩
      go_wp2_with fail
      refine p6.out.mono ?_
      rintro e w' ⟨rfl, rfl⟩
      clear p1 p2 p3 p4 p5 p6
      go_wp2_with fail
      go_loopw [40] (fun s40 wq => ∃ n : Nat, n ≤ 10 ∧ s40 = .int .i64 n ∧ wq = wn) (fun s40 _ => 10 - (intOf s40).toNat)
      case atStart => exact ⟨0, by omega, rfl, rfl⟩
      case round =>
        obtain ⟨n, hn, rfl, rfl⟩ := hrel
        by_cases hlt2 : n < 10
        · go_wp2_with fail
          refine (r1.out n).mono ?_
          rintro e w' ⟨rfl, rfl⟩
          unfold readR
          go_wp2_with fail
          refine (r2.out n).mono ?_
          rintro e w' ⟨rfl, rfl⟩
          unfold readR
          go_wp2_with fail
          exact ⟨⟨n + 1, by omega, by go_num, trivial⟩, by simp [intOf]; omega⟩
        · go_wp2_with fail
          refine hCr.out.mono ?_
          rintro e w5 ⟨rfl, hP5, hO5⟩
          have hn5 : Blk w5 bo [.slice va vl vc] 30 := hO5.out.blk hnew.out (fun h => h.2 (.inr rfl))
          have c5 : w5.cell? ⟨bo, 0, none⟩ = some (.slice va vl vc) := hn5.cell 0
          have hI5 := hI3.out.chg hO5.out (fun k _ hk hx => hk.elim (fun h => by omega) hx.2)
          have hC5 := Box.mk (hP5.out.symm.crash _ l (by rw [hK.out.d.s]; omega) (by have := hK.out.d.w; omega) hI5 (by have := hl.out; omega))
          clear hCr c0 hn5 hI5 r1 r2
          go_wp2_with fail
          refine hC5.out.mono ?_
          rintro e w6 ⟨rfl, hP6, hO6⟩
          have hA6 : Box (AL B X w bd bc b1 b2 (D.crash l) w6) := by
            have q : Others B (fun k => (X k ∨ k = b1 ∨ k = b2) ∨ k = bo) wr w6 := hO5.out.trans hO6.out fun _ _ h => h
            refine ⟨hP6.out.symm.less _ fun k hk => .inl hk, hK.out.d.crash l, q.blk ((hbnB.out.block b1 hK.out.i1.lt).trans hK.out.i1) (fun h => h.2 (.inl (.inr (.inl rfl)))), q.blk ((hbnB.out.block b2 hK.out.i2.lt).trans hK.out.i2) (fun h => h.2 (.inl (.inr (.inr rfl)))), ?_⟩
            exact hK.out.ch.trans (((Chg.of_below hbnB.out).mono (fun k h1 h2 => by omega)).trans q (fun k _ h => h) : Others B (fun k => (X k ∨ k = b1 ∨ k = b2) ∨ k = bo) _ _) (fun k _ h => ⟨h.1, fun hx => h.2 (.inl (.inl hx))⟩)
          clear hC5 hP5 hO5 hP6 hO6 c5
          go_wp2_with fail
          exact ⟨⟨i + 1, D.crash l, by omega, by go_num, hA6⟩, by simp [intOf]; omega⟩
    · go_wp2_with fail
      go_returns
      exact ⟨rfl, ⟨hK.out.ch⟩⟩
end Go.Proofs.Ytcccokdbgmejdaa
