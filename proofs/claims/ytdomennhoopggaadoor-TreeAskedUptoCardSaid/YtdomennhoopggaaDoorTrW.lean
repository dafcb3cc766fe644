/- Walk of the law TreeAsked. -/
import Derived.Test.YtdomennhoopggaaDoorMTe
namespace Go.Proofs.YtdomennhoopggaaDoor
open Go Go.RowKit

set_option maxHeartbeats 3200000 in
set_option maxRecDepth 100000 in
theorem law_asked (M N : Int) (a : Option Addr) (n c : Nat) (l : List ByteArray) (old root : ByteArray) (w : World) (hP : PA w a n c l) (hK : KIs w) (hF : Fit l) (hold : old.size ≤ 70000000000000) (hN63 : N ≤ 9223372036854775807) :
    Calls Tryd.prog 5 #[.agg #[.int .i64 M, .int .i64 N, .slice a n c, .string old, .string root]] w fun e w' => e = .returned (.bool true) ∧ Below w.heap.size w w' := by
  have hcap := hP.cap
  have htop := hP.top
  obtain ⟨m, hm⟩ : ∃ m, min n 100 = m := ⟨_, rfl⟩
  have hmin : min (n : Int) 100 = (m : Int) := by omega
  obtain ⟨L, hL⟩ : ∃ L, l.take m = L := ⟨_, rfl⟩
  have hP2 : PA w a m c L := by rw [← hL]; exact hP.take (by omega)
  replace hF : Fit L := by rw [← hL]; exact hF.take m
  obtain ⟨W0, hW0⟩ : ∃ W0, w.alloc (.cells #[.int .i64 M, .int .i64 N, .slice a n c, .string old, .string root] 35) = W0 := ⟨_, rfl⟩
  have hB : Below w.heap.size w W0 := by rw [← hW0]; exact bel_alloc _ _
  have hR : Blk W0 w.heap.size [.int .i64 M, .int .i64 N, .slice a n c, .string old, .string root] 35 := by rw [← hW0]; exact Blk.new w _ _
  have hH := hashes_any W0 (hK.below hB hK.lt)
  have hc : ∀ w', Below W0.heap.size W0 w' → w'.cell? ⟨w.heap.size, 0, none⟩ = some (.int .i64 M) ∧ w'.cell? ⟨w.heap.size, 1, none⟩ = some (.int .i64 N) ∧ w'.cell? ⟨w.heap.size, 2, none⟩ = some (.slice a n c) ∧ w'.cell? ⟨w.heap.size, 3, none⟩ = some (.string old) ∧ w'.cell? ⟨w.heap.size, 4, none⟩ = some (.string root) := fun w' hb => by
    have h := hR.below hb hR.lt
    exact ⟨h.cell 0, h.cell 1, h.cell 2, h.cell 3, h.cell 4⟩
  have h1 := fun w' (hb : Below W0.heap.size W0 w') => included_any old root M N L m a c w' ((hP2.here hB).here hb) ((hK.below hB hK.lt).below hb (hK.below hB hK.lt).lt) hF hold hN63
  have h2 := fun w' (hb : Below W0.heap.size W0 w') => rincluded_any old root M N L m a c w' ((hP2.here hB).here hb) hF hold hN63
  have h3 := fun w' (hb : Below W0.heap.size W0 w') => consistent_any M N old root L m a c w' ((hP2.here hB).here hb) ((hK.below hB hK.lt).below hb (hK.below hB hK.lt).lt) hF hold hN63
  have h4 := fun w' (hb : Below W0.heap.size W0 w') => rconsistent_any M N old root L m a c w' ((hP2.here hB).here hb) hF hold hN63
  obtain ⟨I, hI⟩ : ∃ I, incdE old M N L root = I := ⟨_, rfl⟩
  obtain ⟨C, hC⟩ : ∃ I, cosE M N L old root = I := ⟨_, rfl⟩
  rw [hI] at h1 h2
  rw [hC] at h3 h4
  replace hB := Box.mk hB
  obtain ⟨D, hD⟩ : ∃ D, w.heap.size = D := ⟨_, rfl⟩
  rw [hD] at hc
  replace hc := Box.mk hc
  clear hP2 hP hK hF hR hL hm hI hC
  go_enter Tryd.func5, Tryd.ntmps5
  go_wp2_with fail
  refine hH.mono ?_
  rintro e w1 ⟨rfl, hb1⟩
  clear hH
  obtain ⟨c0, c1, c2, c3, c4⟩ := hc.out w1 hb1
  replace hb1 := Box.mk hb1
  go_wp2_with fail
  clear c0 c1 c2 c3 c4
  refine region_quiet (fun w' => Below W0.heap.size W0 w') (by kernel_rfl) (by kernel_rfl) (mono_bel hb1.out (dB _) (Nat.le_refl _)) ?_
  repeat (go_big_quiet_step (first | exact fun _ => rfl | rfl))
  refine quiet_val rfl (.string old) (fun w' hw' => by obtain ⟨c0, c1, c2, c3, c4⟩ := hc.out w' hw'; go_simp) ?_
  simp only [Act.put, List.setIfInBounds_toArray, List.set_cons_succ, List.set_cons_zero]
  repeat (go_big_quiet_step (first | exact fun _ => rfl | rfl))
  refine quiet_val rfl (.int .i64 M) (fun w' hw' => by obtain ⟨c0, c1, c2, c3, c4⟩ := hc.out w' hw'; go_simp) ?_
  simp only [Act.put, List.setIfInBounds_toArray, List.set_cons_succ, List.set_cons_zero]
  repeat (go_big_quiet_step (first | exact fun _ => rfl | rfl))
  refine quiet_val rfl (.int .i64 N) (fun w' hw' => by obtain ⟨c0, c1, c2, c3, c4⟩ := hc.out w' hw'; go_simp) ?_
  simp only [Act.put, List.setIfInBounds_toArray, List.set_cons_succ, List.set_cons_zero]
  repeat (go_big_quiet_step (first | exact fun _ => rfl | rfl))
  refine quiet_val rfl (.string root) (fun w' hw' => by obtain ⟨c0, c1, c2, c3, c4⟩ := hc.out w' hw'; go_simp) ?_
  simp only [Act.put, List.setIfInBounds_toArray, List.set_cons_succ, List.set_cons_zero]
  refine quiet_call rfl (.int .i64 I) (fun w' hw' => bel_call (h1 w' hw') hw') (fun w' _ => by go_simp) ?_
  simp only [Act.put, List.setIfInBounds_toArray, List.set_cons_succ, List.set_cons_zero]
  repeat (go_big_quiet_step (first | exact fun _ => rfl | rfl))
  refine quiet_val rfl (.string old) (fun w' hw' => by obtain ⟨c0, c1, c2, c3, c4⟩ := hc.out w' hw'; go_simp) ?_
  simp only [Act.put, List.setIfInBounds_toArray, List.set_cons_succ, List.set_cons_zero]
  repeat (go_big_quiet_step (first | exact fun _ => rfl | rfl))
  refine quiet_val rfl (.int .i64 M) (fun w' hw' => by obtain ⟨c0, c1, c2, c3, c4⟩ := hc.out w' hw'; go_simp) ?_
  simp only [Act.put, List.setIfInBounds_toArray, List.set_cons_succ, List.set_cons_zero]
  repeat (go_big_quiet_step (first | exact fun _ => rfl | rfl))
  refine quiet_val rfl (.int .i64 N) (fun w' hw' => by obtain ⟨c0, c1, c2, c3, c4⟩ := hc.out w' hw'; go_simp) ?_
  simp only [Act.put, List.setIfInBounds_toArray, List.set_cons_succ, List.set_cons_zero]
  repeat (go_big_quiet_step (first | exact fun _ => rfl | rfl))
  refine quiet_val rfl (.string root) (fun w' hw' => by obtain ⟨c0, c1, c2, c3, c4⟩ := hc.out w' hw'; go_simp) ?_
  simp only [Act.put, List.setIfInBounds_toArray, List.set_cons_succ, List.set_cons_zero]
  refine quiet_call rfl (.int .i64 I) (fun w' hw' => bel_call (h2 w' hw') hw') (fun w' _ => by go_simp) ?_
  simp only [Act.put, List.setIfInBounds_toArray, List.set_cons_succ, List.set_cons_zero]
  repeat (go_big_quiet_step (first | exact fun _ => rfl | rfl))
  repeat (go_big_quiet_step (first | exact fun _ => rfl | rfl))
  refine quiet_val rfl (.int .i64 M) (fun w' hw' => by obtain ⟨c0, c1, c2, c3, c4⟩ := hc.out w' hw'; go_simp) ?_
  simp only [Act.put, List.setIfInBounds_toArray, List.set_cons_succ, List.set_cons_zero]
  repeat (go_big_quiet_step (first | exact fun _ => rfl | rfl))
  refine quiet_val rfl (.int .i64 N) (fun w' hw' => by obtain ⟨c0, c1, c2, c3, c4⟩ := hc.out w' hw'; go_simp) ?_
  simp only [Act.put, List.setIfInBounds_toArray, List.set_cons_succ, List.set_cons_zero]
  repeat (go_big_quiet_step (first | exact fun _ => rfl | rfl))
  refine quiet_val rfl (.string old) (fun w' hw' => by obtain ⟨c0, c1, c2, c3, c4⟩ := hc.out w' hw'; go_simp) ?_
  simp only [Act.put, List.setIfInBounds_toArray, List.set_cons_succ, List.set_cons_zero]
  repeat (go_big_quiet_step (first | exact fun _ => rfl | rfl))
  refine quiet_val rfl (.string root) (fun w' hw' => by obtain ⟨c0, c1, c2, c3, c4⟩ := hc.out w' hw'; go_simp) ?_
  simp only [Act.put, List.setIfInBounds_toArray, List.set_cons_succ, List.set_cons_zero]
  refine quiet_call rfl (.int .i64 C) (fun w' hw' => bel_call (h3 w' hw') hw') (fun w' _ => by go_simp) ?_
  simp only [Act.put, List.setIfInBounds_toArray, List.set_cons_succ, List.set_cons_zero]
  repeat (go_big_quiet_step (first | exact fun _ => rfl | rfl))
  refine quiet_val rfl (.int .i64 M) (fun w' hw' => by obtain ⟨c0, c1, c2, c3, c4⟩ := hc.out w' hw'; go_simp) ?_
  simp only [Act.put, List.setIfInBounds_toArray, List.set_cons_succ, List.set_cons_zero]
  repeat (go_big_quiet_step (first | exact fun _ => rfl | rfl))
  refine quiet_val rfl (.int .i64 N) (fun w' hw' => by obtain ⟨c0, c1, c2, c3, c4⟩ := hc.out w' hw'; go_simp) ?_
  simp only [Act.put, List.setIfInBounds_toArray, List.set_cons_succ, List.set_cons_zero]
  repeat (go_big_quiet_step (first | exact fun _ => rfl | rfl))
  refine quiet_val rfl (.string old) (fun w' hw' => by obtain ⟨c0, c1, c2, c3, c4⟩ := hc.out w' hw'; go_simp) ?_
  simp only [Act.put, List.setIfInBounds_toArray, List.set_cons_succ, List.set_cons_zero]
  repeat (go_big_quiet_step (first | exact fun _ => rfl | rfl))
  refine quiet_val rfl (.string root) (fun w' hw' => by obtain ⟨c0, c1, c2, c3, c4⟩ := hc.out w' hw'; go_simp) ?_
  simp only [Act.put, List.setIfInBounds_toArray, List.set_cons_succ, List.set_cons_zero]
  refine quiet_call rfl (.int .i64 C) (fun w' hw' => bel_call (h4 w' hw') hw') (fun w' _ => by go_simp) ?_
  simp only [Act.put, List.setIfInBounds_toArray, List.set_cons_succ, List.set_cons_zero]
  repeat (go_big_quiet_step (first | exact fun _ => rfl | rfl))
  refine wpQuiet_nil ?_
  clear h1 h2 h3 h4 hc
  intro w7 hw7
  go_wp2_with fail
  go_ret
  exact ⟨rfl, mono_bel hB.out hw7 (Nat.le_refl _)⟩
end Go.Proofs.YtdomennhoopggaaDoor
