/- Walks of Barrier and kept; every call of Write and Read. -/
import Derived.Test.YtoaipjpbioaneaaGreatFlE
namespace Go.Proofs.YtoaipjpbioaneaaGreat
open Go.RowKit

theorem DNext.small {w w' : World} {bd : Nat} {F : Nat → Prop} {D D' : Dev} (h : DAt w bd F D) (h1 : DAt w' bd F D') (hc : Chg (fun k => k = bd) w w') : DNext w bd F D' w' :=
  ⟨h1.wide (fun _ hk => .inl hk) fun k hk => by rcases hk with hk | hk; exact h1.lt k hk; exact hk.2, hc.mono fun i _ hi => by rw [hi]; exact h.fd⟩
theorem step_off (D : Dev) (h : D.goes = true) : D.stepD.off = D.off := by
  unfold Dev.goes at h
  unfold Dev.stepD
  rw [if_neg (by simpa using h)]
theorem write_any (bd : Nat) (F : Nat → Prop) (D : Dev) (n : Int) (t : ByteArray) (w : World) (h : DAt w bd F D) (hk : D.taken ≤ 1000000) (hf : D.fall ≤ 9223372036854775807) (hws : D.ws.length ≤ 1000000) :
    Calls Tryz.prog 24 #[.pointer (some ⟨bd, 0, none⟩), .int .i64 n, .string t] w fun e w' => e = .returned (.int .i64 (D.writeE n t.data.toList)) ∧ DNext w bd F (D.write n t.data.toList) w' := by
  unfold Dev.writeE Dev.write
  by_cases hr : D.refused n = 0
  · have h0 : ¬ D.refused n ≠ 0 := fun h => h hr
    simp only [if_neg h0]
    by_cases ht : t.size ≤ 64
    · have h64 : ¬ 64 < t.data.toList.length := by rw [data_len]; omega
      simp only [if_neg h64]
      cases hg : D.goes with
      | true =>
        obtain ⟨h1, k, rfl, h2⟩ := refused_zero hr
        simpa using write_fit bd F D k t w h h1 h2 ht hk hf hws hg
      | false => exact (write_falls bd F D n t w h hr ht hk hf hg).mono fun e w' ⟨a, b, c, _⟩ => ⟨by rw [a]; rfl, by simpa using DNext.small h b c⟩
    · have h64 : 64 < t.data.toList.length := by rw [data_len]; omega
      simp only [if_pos h64]
      exact (write_long bd F D n t w h hr (by omega)).mono fun e w' ⟨a, b⟩ => ⟨a, b ▸ DNext.same h⟩
  · simp only [if_pos (show D.refused n ≠ 0 from hr)]
    exact (write_refused bd F D n t w h hr).mono fun e w' ⟨a, b⟩ => ⟨a, b ▸ DNext.same h⟩
def readR (D : Dev) (n : Int) : Value := .tuple #[.string ⟨(D.read n).toArray⟩, .int .i64 (D.refused n)]
theorem read_any (bd : Nat) (F : Nat → Prop) (D : Dev) (n : Int) (w : World) (h : DAt w bd F D) :
    Calls Tryz.prog 90 #[.pointer (some ⟨bd, 0, none⟩), .int .i64 n] w fun e w' => e = .returned (readR D n) ∧ w = w' := by
  unfold readR Dev.read
  by_cases hr : D.refused n = 0
  · rw [if_neg (by simpa using hr), hr]
    obtain ⟨h1, k, rfl, h2⟩ := refused_zero hr
    exact read_fit bd F D k w h h1 h2
  · rw [if_pos hr]
    exact read_refused bd F D n w h hr

theorem barrier_nil (w : World) :
    Calls Tryz.prog 82 #[.pointer none] w fun e w' => e = .returned (.int .i64 1) ∧ w = w' := by
  go_enter Tryz.func82, Tryz.ntmps82
  go_wp2_with fail
  go_ret
  exact ⟨rfl, rfl⟩
theorem barrier_off (bd : Nat) (F : Nat → Prop) (D : Dev) (w : World) (h : DAt w bd F D) (hoff : D.off = true) :
    Calls Tryz.prog 82 #[.pointer (some ⟨bd, 0, none⟩)] w fun e w' => e = .returned (.int .i64 7) ∧ w = w' := by
  obtain ⟨vs, vp, hb, _, _, _, _⟩ := h.out
  have c4 : w.cell? ⟨bd, 4, none⟩ = some (.bool D.off) := hb.cell 4
  rw [hoff] at c4
  clear hb h hoff
  go_enter Tryz.func82, Tryz.ntmps82
  go_wp2_with fail
  go_ret
  exact ⟨rfl, rfl⟩
set_option maxHeartbeats 800000 in
theorem barrier_falls (bd : Nat) (F : Nat → Prop) (D : Dev) (w : World) (h : DAt w bd F D) (hoff : D.off = false) (hk : D.taken ≤ 1000000) (hf : D.fall ≤ 9223372036854775807) (hg : D.goes = false) :
    Calls Tryz.prog 82 #[.pointer (some ⟨bd, 0, none⟩)] w fun e w' => e = .returned (.int .i64 7) ∧ DNext w bd F D.stepD w' := by
  have hS := step_any bd F D w h hk hf
  rw [hg] at hS
  obtain ⟨vs, vp, hb, _, _, _, _⟩ := h.out
  have c4 : w.cell? ⟨bd, 4, none⟩ = some (.bool D.off) := hb.cell 4
  rw [hoff] at c4
  replace hS := Box.mk hS
  replace h := Box.mk h
  clear hb hoff hk hf hg
  go_enter Tryz.func82, Tryz.ntmps82
  go_wp2_with fail
  refine hS.out.mono ?_
  rintro e w1 ⟨rfl, hD1, hC1, _⟩
  have hR := Box.mk (DNext.small h.out hD1 hC1)
  clear hS hD1 hC1 c4
  go_wp2_with fail
  go_ret
  exact ⟨rfl, hR.out⟩
set_option maxHeartbeats 800000 in
theorem barrier_fit (bd : Nat) (F : Nat → Prop) (D : Dev) (w : World) (h : DAt w bd F D) (hoff : D.off = false) (hk : D.taken ≤ 1000000) (hf : D.fall ≤ 9223372036854775807) (hg : D.goes = true) :
    Calls Tryz.prog 82 #[.pointer (some ⟨bd, 0, none⟩)] w fun e w' => e = .returned (.int .i64 0) ∧ DNext w bd F { D.stepD with safe := D.seen, ws := [] } w' := by
  have hS := step_any bd F D w h hk hf
  rw [hg] at hS
  obtain ⟨vs, vp, hb, _, _, _, _⟩ := h.out
  have c4 : w.cell? ⟨bd, 4, none⟩ = some (.bool D.off) := hb.cell 4
  rw [hoff] at c4
  replace hS := Box.mk hS
  replace h := Box.mk h
  clear hb hoff hk hf hg
  go_enter Tryz.func82, Tryz.ntmps82
  go_wp2_with fail
  refine hS.out.mono ?_
  rintro e w1 ⟨rfl, hD1, hC1, _⟩
  have hseen : D.stepD.seen = D.seen := by unfold Dev.seen; rw [Dev.step_safe, Dev.step_ws]
  have hR : Box (DNext w bd F { D.stepD with safe := D.seen, ws := [] } (w1.setCell ⟨bd, 1, none⟩ (.slice none 0 0))) := ⟨by
    obtain ⟨vs, vp, hb, hs, hp, hF1, hF2⟩ := hD1.out
    have hc := chg1 w1 bd 1 (.slice none 0 0)
    refine DNext.small h.out ⟨⟨h.out.ok.seen, okW_nil _, by simp only [Dev.ok.seen_len]; exact h.out.ok.n⟩, ⟨vs, .slice none 0 0, hb.setCell 1 _, ?_, Row.nil _ _ _, hF1, fun k hk => by cases hk⟩, hD1.fd, fun k hk => Nat.lt_of_lt_of_le (hD1.lt k hk) hc.size⟩ ?_
    · have := hs.chg hc (fun k hk hb' => by subst hb'; exact hs.apart hb (by decide) hk)
      rw [hseen, Dev.step_safe] at this
      rw [show ({ D.stepD with safe := D.seen, ws := [] } : Dev).seen = D.seen from rfl]
      simp only [Dev.ok.seen_len]
      exact this
    · exact hC1.trans hc fun _ _ h => h⟩
  obtain ⟨vs, vp, hb, _, hp, _, _⟩ := hD1.out
  obtain ⟨pa, pc, rfl⟩ := hp.shape
  have c1 : w1.cell? ⟨bd, 1, none⟩ = some (.slice pa D.stepD.ws.length pc) := hb.cell 1
  have f1 := hb.free 1
  clear hS hD1 hC1 c4 hb hp hseen
  go_wp2_with fail
  go_ret
  exact ⟨rfl, hR.out⟩
theorem barrier_any (bd : Nat) (F : Nat → Prop) (D : Dev) (w : World) (h : DAt w bd F D) (hk : D.taken ≤ 1000000) (hf : D.fall ≤ 9223372036854775807) :
    Calls Tryz.prog 82 #[.pointer (some ⟨bd, 0, none⟩)] w fun e w' => e = .returned (.int .i64 D.barrierE) ∧ DNext w bd F D.barrier w' := by
  unfold Dev.barrierE Dev.barrier
  cases ho : D.off with
  | true => exact (barrier_off bd F D w h ho).mono fun e w' ⟨a, b⟩ => ⟨by simpa using a, by simpa [← b] using DNext.same h⟩
  | false =>
    cases hg : D.goes with
    | true => simpa using barrier_fit bd F D w h ho hk hf hg
    | false => simpa using barrier_falls bd F D w h ho hk hf hg

/-- A slice of integers, in a block of G. -/
structure Ints (w : World) (G : Nat → Prop) (v : Value) (l : List Int) : Prop where
  out : ∃ a c, v = .slice a l.length c ∧ (0 < l.length → ∃ cb co, a = some ⟨cb, co, none⟩ ∧ cb < w.heap.size ∧ G cb ∧ ∀ i, i < l.length → w.cell? ⟨cb, co + i, none⟩ = some (.int .i64 (l.getD i 0)))
theorem Ints.chg {S G : Nat → Prop} {w w' : World} {v : Value} {l : List Int} (h : Ints w G v l) (hc : Chg S w w') (hS : ∀ k, k < w.heap.size → G k → ¬ S k) : Ints w' G v l := by
  obtain ⟨a, c, rfl, hcs⟩ := h.out
  refine ⟨⟨a, c, rfl, fun h0 => ?_⟩⟩
  obtain ⟨cb, co, rfl, hl, hG, hcl⟩ := hcs h0
  exact ⟨cb, co, rfl, Nat.lt_of_lt_of_le hl hc.size, hG, fun i hi => by rw [← hcl i hi]; unfold World.cell?; rw [hc.block cb hl (hS cb hl hG)]⟩
set_option maxHeartbeats 400000 in
theorem kept_none (a : Option Addr) (c : Nat) (i : Nat) (w : World) :
    Calls Tryz.prog 38 #[.agg #[.slice a 0 c], .int .i64 (i : Int)] w fun e w' => e = .returned (.int .i64 0) ∧ Below w.heap.size w w' := by
  go_enter Tryz.func38, Tryz.ntmps38
  go_wp2_with fail
  go_ret
  exact ⟨rfl, (Below.refl _ _).alloc (Nat.le_refl _) _⟩
set_option maxHeartbeats 1600000 in
theorem kept_some (cb co L c i : Nat) (x : Int) (w : World) (hL : 0 < L) (hi : i ≤ 9223372036854775807) (hLm : L ≤ 9223372036854775807) (hcb : cb < w.heap.size) (hc : w.cell? ⟨cb, co + i % L, none⟩ = some (.int .i64 x)) :
    Calls Tryz.prog 38 #[.agg #[.slice (some ⟨cb, co, none⟩) L c], .int .i64 (i : Int)] w fun e w' => e = .returned (.int .i64 (min (max x 0) 64)) ∧ Below w.heap.size w w' := by
  have hm : (i : Int).tmod (L : Int) = ((i % L : Nat) : Int) := by rw [Int.tmod_eq_emod_of_nonneg (by omega)]; omega
  have hml : i % L < L := Nat.mod_lt _ hL
  have hB := Box.mk ((Below.refl w.heap.size w).alloc (Nat.le_refl _) (.cells #[.slice (some ⟨cb, co, none⟩) L c] 25))
  have hN : Blk (w.alloc (.cells #[.slice (some ⟨cb, co, none⟩) L c] 25)) w.heap.size [.slice (some ⟨cb, co, none⟩) L c] 25 := Blk.new w _ _
  obtain ⟨wb, hwb⟩ : ∃ wb, w.alloc (.cells #[.slice (some ⟨cb, co, none⟩) L c] 25) = wb := ⟨_, rfl⟩
  rw [hwb] at hB hN
  obtain ⟨bo, hbo⟩ : ∃ bo, w.heap.size = bo := ⟨_, rfl⟩
  rw [hbo] at hN
  have c0 : wb.cell? ⟨bo, 0, none⟩ = some (.slice (some ⟨cb, co, none⟩) L c) := hN.cell 0
  have c9 : wb.cell? ⟨cb, co + i % L, none⟩ = some (.int .i64 x) := by rw [hB.out.cell (p := ⟨cb, _, none⟩) hcb]; exact hc
  generalize i % L = j at *
  clear hN hc hcb
  go_enter Tryz.func38, Tryz.ntmps38
  go_wp2_with fail
  refine wp_region_quiet_lit (by kernel_rfl) (by kernel_rfl) ?_
  repeat (go_big_quiet_step (first | exact fun _ => rfl | rfl))
  refine wpQuiet_nil ?_
  rintro w' ⟨q, rfl⟩
  have hx0 : Box ((if x < 0 then 0 else x) = max x 0) := ⟨by split <;> omega⟩
  have hB2 : Box (Below w.heap.size w (wb.drewN q)) := ⟨⟨hB.out.os, hB.out.tape, hB.out.output, hB.out.size, hB.out.block⟩⟩
  obtain ⟨y, hy⟩ : ∃ y : Int, (if 64 < (if x < 0 then 0 else x) then 64 else (if x < 0 then 0 else x)) = y := ⟨_, rfl⟩
  have hxy : min (max x 0) 64 = y := by rw [← hy]; split <;> split <;> omega
  rw [hy]
  rw [hx0.out]
  replace hxy := Box.mk hxy
  obtain ⟨x0, hx1⟩ : ∃ x0, max x 0 = x0 := ⟨_, rfl⟩
  rw [hx1]
  replace hx1 := Box.mk hx1
  clear hy hB hwb hbo hx0
  go_wp2_with fail
  go_ret
  exact ⟨ret_i hxy.out.symm, hB2.out⟩
theorem kept_any (G : Nat → Prop) (v : Value) (keep : List Int) (i : Nat) (w : World) (h : Ints w G v keep) (hl : keep.length ≤ 9223372036854775807) (hi : i ≤ 9223372036854775807) :
    Calls Tryz.prog 38 #[.agg #[v], .int .i64 (i : Int)] w fun e w' => e = .returned (.int .i64 (keepAt keep i : Int)) ∧ Below w.heap.size w w' := by
  obtain ⟨a, c, rfl, hc⟩ := h.out
  by_cases h0 : keep.length = 0
  · have hk : keep = [] := List.eq_nil_of_length_eq_zero h0
    rw [h0]
    have e : keepAt keep i = 0 := by unfold keepAt; rw [if_pos hk]
    rw [e]
    exact kept_none a c i w
  · obtain ⟨cb, co, rfl, hlt, _, hcs⟩ := hc (by omega)
    have hm : i % keep.length < keep.length := Nat.mod_lt _ (by omega)
    have e : ((keepAt keep i : Nat) : Int) = min (max (keep.getD (i % keep.length) 0) 0) 64 := by
      unfold keepAt
      rw [if_neg (by rintro rfl; simp at h0)]
      omega
    rw [e]
    exact kept_some cb co keep.length c i _ w (by omega) hi hl hlt (hcs _ hm)
end Go.Proofs.YtoaipjpbioaneaaGreat
