/- Walks of a copy: written as a whole; its room; a region's place on a device. -/
import Derived.Test.YtoaipjpbioaneaaGreatCeY
namespace Go.Proofs.YtoaipjpbioaneaaGreat
open Go.RowKit Go.Maps

theorem barrier_grow (D : Dev) : D.barrier.taken ≤ D.taken + 1 ∧ D.barrier.fall ≤ D.fall ∧ D.barrier.ws.length ≤ D.ws.length := by
  unfold Dev.barrier Dev.stepD
  repeat' split
  all_goals first | exact ⟨Nat.le_succ _, Nat.le_refl _, Nat.le_refl _⟩ | (simp; done) | (simp; omega)
theorem layM_grow : ∀ (l : List Bs) (D : Dev) (n : Nat), (layM l D n).2.taken ≤ D.taken + l.length + 1 ∧ (layM l D n).2.fall ≤ D.fall ∧ (layM l D n).2.ws.length ≤ D.ws.length + l.length
  | [], D, n => by
    obtain ⟨h1, h2, h3⟩ := barrier_grow D
    exact ⟨by simp [layM]; omega, h2, by simp [layM]; omega⟩
  | t :: r, D, n => by
    obtain ⟨h1, h2, h3⟩ := write_grow D n t
    unfold layM
    split
    · obtain ⟨g1, g2, g3⟩ := layM_grow r (D.write n t) (n + 1)
      rw [List.length_cons]
      exact ⟨by omega, by omega, by omega⟩
    · rw [List.length_cons]
      exact ⟨by show (D.write n t).taken ≤ _; omega, h2, by show (D.write n t).ws.length ≤ _; omega⟩
theorem cut_one {t : Bs} (h0 : t ≠ []) (h : t.length ≤ 64) : cut t.length t = [t] := by
  have h1 : 0 < t.length := List.length_pos_iff.2 h0
  rw [show t.length = (t.length - 1) + 1 by omega, cut, if_neg h0, List.drop_of_length_le h, cut_nil, List.take_of_length_le h]
theorem cut_count (t : Bs) : (cut t.length t).length ≤ t.length := by
  have := cut_len t.length t (by omega)
  omega
theorem zeros_rep : (⟨(Lib.repeatL (ByteArray.mk #[0]).data.toList 64).toArray⟩ : ByteArray) = btx zeros := by decide +kernel
theorem rep_any (w : World) : Calls Tryz.prog 63 #[.string ⟨#[0]⟩, .int .i64 64] w fun e w' => e = .returned (.string (btx zeros)) ∧ Below w.heap.size w w' := by
  have h := Tryz.strings_Repeat ⟨#[0]⟩ 64 w (by decide) (by decide)
  rw [zeros_rep] at h
  exact h

set_option maxHeartbeats 3200000 in
set_option maxRecDepth 100000 in
theorem pwrite_any (bd : Nat) (F : Nat → Prop) (D : Dev) (at_ : Nat) (q : Int) (hh b : Bs) (w : World) (h : DAt w bd F D) (hk : D.taken ≤ 100000) (hf : D.fall ≤ 9223372036854775807) (hws : D.ws.length ≤ 100000) (hfit : at_ ≤ 90000) (hh0 : hh ≠ []) (hh1 : hh.length ≤ 64) (hb : b.length ≤ 400000) :
    Calls Tryz.prog 35 #[.agg #[.pointer (some ⟨bd, 0, none⟩), .int .i64 (at_ : Int), .int .i64 q], .string (btx hh), .string (btx b)] w fun e w' => e = .returned (.int .i64 (commitM D at_ hh (cut b.length b)).1) ∧ Box (DNext w bd F (commitM D at_ hh (cut b.length b)).2 w') := by
  obtain ⟨w1, hw1⟩ : ∃ w1, w.alloc (.cells #[.pointer (some ⟨bd, 0, none⟩), .int .i64 (at_ : Int), .int .i64 q] 67) = w1 := ⟨_, rfl⟩
  obtain ⟨bp, hbp⟩ : ∃ bp, w.heap.size = bp := ⟨_, rfl⟩
  have hP1 : Box (Blk w1 bp [.pointer (some ⟨bd, 0, none⟩), .int .i64 (at_ : Int), .int .i64 q] 67) := ⟨by
    rw [← hw1, ← hbp]; exact Blk.new w _ _⟩
  have hB1 : Box (Below w.heap.size w w1) := ⟨by rw [← hw1]; exact (Below.refl _ _).alloc (Nat.le_refl _) _⟩
  have hbF : Box (¬ F bp) := ⟨fun hh => by have := h.lt bp hh; omega⟩
  have hD1 : Box (DAt w1 bd F D) := ⟨h.below hB1.out⟩
  have hcut0 : cut zeros.length zeros = [zeros] := by decide +kernel
  have hcuth := cut_one hh0 hh1
  replace h := Box.mk h
  replace hcut0 := Box.mk hcut0
  replace hcuth := Box.mk hcuth
  replace hh0 := Box.mk hh0
  go_enter Tryz.func35, Tryz.ntmps35
  go_wp2_with fail
  clear hw1
  refine region_quiet_tail (C := fun w' => Below w1.heap.size w1 w') 2 rfl (by kernel_rfl) (Below.refl _ _).drew ?_
  simp only [List.take, List.drop]
  refine quiet_any rfl (.agg #[.pointer (some ⟨bd, 0, none⟩), .int .i64 (at_ : Int), .int .i64 q]) (fun w' hw' => by
    have hb' : Blk w' bp _ _ := (hw'.block _ hP1.out.lt).trans hP1.out
    have c0 : w'.cell? ⟨bp, 0, none⟩ = some (.pointer (some ⟨bd, 0, none⟩)) := hb'.cell 0
    have c1 : w'.cell? ⟨bp, 1, none⟩ = some (.int .i64 (at_ : Int)) := hb'.cell 1
    have c2 : w'.cell? ⟨bp, 2, none⟩ = some (.int .i64 q) := hb'.cell 2
    go_simp) ?_
  simp only [Act.put, List.setIfInBounds_toArray, List.set_cons_succ, List.set_cons_zero]
  repeat (go_big_quiet_step (first | exact fun _ => rfl | (intro hw; refine (rep_any _).mono ?_; rintro e w'' ⟨rfl, h⟩; exact ⟨rfl, hw.trans (h.mono hw.size)⟩)))
  refine wpQuiet_nil ?_
  intro w2 hB2
  have hBw : Box (Below w.heap.size w w2) := ⟨hB1.out.trans (hB2.mono hB1.out.size)⟩
  have hN2 : Box (DNext w2 bd F D w2) := ⟨DNext.same (hD1.out.below hB2)⟩
  have hP2 : Box (Blk w2 bp [.pointer (some ⟨bd, 0, none⟩), .int .i64 (at_ : Int), .int .i64 q] 67) := ⟨(hB2.block _ hP1.out.lt).trans hP1.out⟩
  have hkeep : ∀ D' w', DNext w2 bd F D' w' → Blk w' bp [.pointer (some ⟨bd, 0, none⟩), .int .i64 (at_ : Int), .int .i64 q] 67 := fun D' w' hN => hN.chg.blk hP2.out hbF.out
  have hL1 := lay_any bd F D at_ 0 zeros q w2 (hD1.out.below hB2) (by simp [zeros]; omega) hf (by simp [zeros]; omega) (by omega)
  rw [hcut0.out, Nat.add_zero] at hL1
  change Calls _ _ #[_, .int .i64 0, _] _ _ at hL1
  obtain ⟨g1, g2, g3⟩ := layM_grow [zeros] D at_
  have hdef : Box (commitM D at_ hh (cut b.length b) = if (layM [zeros] D at_).1 = 0 then
      if (layM (cut b.length b) (layM [zeros] D at_).2 (at_ + 1)).1 = 0 then layM [hh] (layM (cut b.length b) (layM [zeros] D at_).2 (at_ + 1)).2 at_ else layM (cut b.length b) (layM [zeros] D at_).2 (at_ + 1)
      else layM [zeros] D at_) := ⟨rfl⟩
  obtain ⟨e1, he1⟩ : ∃ e1, (layM [zeros] D at_).1 = e1 := ⟨_, rfl⟩
  obtain ⟨D1, hd1⟩ : ∃ D1, (layM [zeros] D at_).2 = D1 := ⟨_, rfl⟩
  have hpair : Box (layM [zeros] D at_ = (e1, D1)) := ⟨by rw [← he1, ← hd1]⟩
  rw [he1, hd1] at hL1
  rw [hd1] at g1 g2 g3
  rw [he1, hd1, hpair.out] at hdef
  simp only [List.length_singleton] at g1 g3
  replace hL1 := Box.mk hL1
  replace hkeep := Box.mk hkeep
  clear he1 hd1 hB2 hD1 hP1 hB1
  by_cases hz1 : e1 = 0
  · subst hz1
    go_wp2_with fail
    refine hL1.out.mono ?_
    rintro e w3 ⟨rfl, hN3⟩
    have hb3 := hkeep.out _ _ hN3.out
    have c0 : w3.cell? ⟨bp, 0, none⟩ = some (.pointer (some ⟨bd, 0, none⟩)) := hb3.cell 0
    have c1 : w3.cell? ⟨bp, 1, none⟩ = some (.int .i64 (at_ : Int)) := hb3.cell 1
    have c2 : w3.cell? ⟨bp, 2, none⟩ = some (.int .i64 q) := hb3.cell 2
    have hL2 := lay_any bd _ D1 at_ 1 b q w3 hN3.out.at_ (by omega) (by omega) (by omega) (by omega)
    change Calls _ _ #[_, .int .i64 1, _] _ _ at hL2
    obtain ⟨k1, k2, k3⟩ := layM_grow (cut b.length b) D1 (at_ + 1)
    have hcc := cut_count b
    obtain ⟨e2, he2⟩ : ∃ e2, (layM (cut b.length b) D1 (at_ + 1)).1 = e2 := ⟨_, rfl⟩
    obtain ⟨D2, hd2⟩ : ∃ D2, (layM (cut b.length b) D1 (at_ + 1)).2 = D2 := ⟨_, rfl⟩
    have hpair2 : Box (layM (cut b.length b) D1 (at_ + 1) = (e2, D2)) := ⟨by rw [← he2, ← hd2]⟩
    rw [he2, hd2] at hL2
    rw [hd2] at k1 k2 k3
    rw [he2, hd2, hpair2.out, if_pos (by trivial)] at hdef
    replace hL2 := Box.mk hL2
    clear he2 hd2 hL1 hb3
    by_cases hz2 : e2 = 0
    · subst hz2
      go_wp2_with fail
      refine hL2.out.mono ?_
      rintro e w4 ⟨rfl, hN4'⟩
      have hN4 : Box (DNext w2 bd F D2 w4) := ⟨hN3.out.trans hN4'.out⟩
      have hb4 := hkeep.out _ _ hN4.out
      clear c0 c1 c2
      have c0 : w4.cell? ⟨bp, 0, none⟩ = some (.pointer (some ⟨bd, 0, none⟩)) := hb4.cell 0
      have c1 : w4.cell? ⟨bp, 1, none⟩ = some (.int .i64 (at_ : Int)) := hb4.cell 1
      have c2 : w4.cell? ⟨bp, 2, none⟩ = some (.int .i64 q) := hb4.cell 2
      have hL3 := lay_any bd _ D2 at_ 0 hh q w4 hN4.out.at_ (by omega) (by omega) (by omega) (by omega)
      rw [hcuth.out, Nat.add_zero] at hL3
      change Calls _ _ #[_, .int .i64 0, _] _ _ at hL3
      obtain ⟨e3, he3⟩ : ∃ e3, (layM [hh] D2 at_).1 = e3 := ⟨_, rfl⟩
      obtain ⟨D3, hd3⟩ : ∃ D3, (layM [hh] D2 at_).2 = D3 := ⟨_, rfl⟩
      have hpair3 : Box (layM [hh] D2 at_ = (e3, D3)) := ⟨by rw [← he3, ← hd3]⟩
      rw [he3, hd3] at hL3
      rw [if_pos (by trivial), hpair3.out] at hdef
      replace hL3 := Box.mk hL3
      clear he3 hd3 hL2 hb4 hN3 hN4'
      go_wp2_with fail
      refine hL3.out.mono ?_
      rintro e w5 ⟨rfl, hN5⟩
      have hR : Box (DNext w bd F D3 w5) := ⟨DNext.from_ hBw.out (hN4.out.trans hN5.out)⟩
      clear hL3 hN5 hN4 c0 c1 c2
      go_wp2_with fail
      go_returns
      rw [hdef.out]
      exact ⟨rfl, hR⟩
    · have hz3 : (e2 == 0) = false := by simpa using hz2
      rw [if_neg hz2] at hdef
      replace hz2 := Box.mk hz2
      go_wp2_with fail
      refine hL2.out.mono ?_
      rintro e w4 ⟨rfl, hN4'⟩
      have hR : Box (DNext w bd F D2 w4) := ⟨DNext.from_ hBw.out (hN3.out.trans hN4'.out)⟩
      clear hL2 hN4' hN3 c0 c1 c2
      go_wp2_with fail
      go_returns
      rw [hdef.out]
      exact ⟨rfl, hR⟩
  · have hz3 : (e1 == 0) = false := by simpa using hz1
    rw [if_neg hz1] at hdef
    replace hz1 := Box.mk hz1
    go_wp2_with fail
    refine hL1.out.mono ?_
    rintro e w3 ⟨rfl, hN3⟩
    have hR : Box (DNext w bd F D1 w3) := ⟨DNext.from_ hBw.out hN3.out⟩
    clear hL1 hN3
    go_wp2_with fail
    go_returns
    rw [hdef.out]
    exact ⟨rfl, hR⟩
end Go.Proofs.YtoaipjpbioaneaaGreat
