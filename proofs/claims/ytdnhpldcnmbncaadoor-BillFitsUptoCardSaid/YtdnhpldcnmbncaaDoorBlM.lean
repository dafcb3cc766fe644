/- Walk of the laws BillFits, BillReads. -/
import Derived.Test.YtdnhpldcnmbncaaDoorMBd
import Derived.Test.YtdnhpldcnmbncaaDoorBlJ
import Derived.Test.YtdnhpldcnmbncaaDoorBlN
namespace Go.Proofs.YtdnhpldcnmbncaaDoor.Bi
open Go Go.RowKit Go.Proofs.YtdnhpldcnmbncaaDoor
set_option linter.all false

theorem BAt.put5 {w : World} {g : Nat} {v s c : Int} {h t : ByteArray} {x : Value} (hA : BAt w g v s c h t x) (x' : Value) : BAt (w.setCell ⟨g, 5, none⟩ x') g v s c h t x' ∧ Pk.Chg (fun i => i = g) w (w.setCell ⟨g, 5, none⟩ x') :=
  ⟨Pk.Blk.setCell hA 5 x', (Pk.Chg.refl (fun i => i = g) w).setCell (p := ⟨g, 5, none⟩) rfl x'⟩
theorem PA_chg {S : Nat → Prop} {B : Nat} {w w2 : World} {a : Option Addr} {n k : Nat} {l : List ByteArray} {w0 : World} (hP : PA w0 a n k l) (hb : Below w0.heap.size w0 w) (hc : Pk.Chg S w w2) (hS : ∀ i, S i → w0.heap.size ≤ i) : PA w2 a n k l :=
  hP.here (hb.trans (hc.below hb.size hS))
set_option maxHeartbeats 6400000 in
set_option maxRecDepth 100000 in
theorem law_fits (v s c i : Int) (h t x : ByteArray) (a : Option Addr) (n k : Nat) (l : List ByteArray) (w : World) (hP : PA w a n k l) (hF : Fit l) (hK : KIs w) (hx : x.size ≤ 140737488354000) :
    Calls Tryd.prog 5 #[.agg #[.int .i64 v, .int .i64 s, .int .i64 c, .string h, .string t, .slice a n k], .int .i64 i, .string x] w fun e w' => e = .returned (.bool true) ∧ Below w.heap.size w w' := by
  have hKB := Box.mk fun w' (hx : Below w.heap.size w w') => (hK.below hx hK.lt : KIs w')
  obtain ⟨N, hN⟩ : ∃ N, min n 300 = N := ⟨_, rfl⟩
  have hmin : min (n : Int) 300 = (N : Int) := by omega
  have hNn : N ≤ n := by omega
  have hlen := hP.len
  have hcap := hP.cap
  have htop := hP.top
  obtain ⟨L, hL⟩ : ∃ L, l.take N = L := ⟨_, rfl⟩
  have hPB := Box.mk fun w' (hb : Below w.heap.size w w') => (hL ▸ (hP.here hb).take hNn : PA w' a N k L)
  have hFt := Box.mk (hL ▸ hF.take N : Fit L)
  replace hlen := Box.mk hlen
  clear hN hL hP hF
  have hb := bel_alloc w (.cells #[.int .i64 v, .int .i64 s, .int .i64 c, .string h, .string t, .slice a n k] 25)
  have hA := BAt.new w v s c h t (.slice a n k)
  obtain ⟨w1, hw1⟩ : ∃ W, w.alloc (.cells #[.int .i64 v, .int .i64 s, .int .i64 c, .string h, .string t, .slice a n k] 25) = W := ⟨_, rfl⟩
  rw [hw1] at hb hA
  obtain ⟨b, hbe⟩ : ∃ b, w.heap.size = b := ⟨_, rfl⟩
  rw [hbe] at hA
  obtain ⟨q0, q1, q2, q3, q4, q5⟩ := hA.cells
  replace hb := Box.mk hb
  replace hA := Box.mk hA
  have h1 := bills_any w1 (hKB.out w1 hb.out)
  have fI := Box.mk fun w' (hb : Below w.heap.size w w') => fits_any v s c i h t x a N k L w' (hPB.out w' hb) (hKB.out w' hb) hx
  have rI := Box.mk fun w' (hb : Below w.heap.size w w') => rfits_any v s c i h t x a N k L w' (hPB.out w' hb) hFt.out hx
  have fW := Box.mk fun w' (hb : Below w.heap.size w w') => whole_any v s c h t x a N k L w' (hPB.out w' hb) (hKB.out w' hb) (by omega)
  have rW := Box.mk fun w' (hb : Below w.heap.size w w') => rwhole_any v s c h t x a N k L w' (hPB.out w' hb) hFt.out (by omega)
  obtain ⟨I, hI⟩ : ∃ I, fitI v s c h t L i x = I := ⟨_, rfl⟩
  obtain ⟨J, hJ⟩ : ∃ J, whoI v s c h t L x = J := ⟨_, rfl⟩
  rw [hI] at fI rI
  rw [hJ] at fW rW
  have e1 : (I == I) = true := by simp
  have e2 : (J == J) = true := by simp
  clear hI hJ hK
  go_enter Tryd.func5, Tryd.ntmps5
  go_wp2_with fail
  refine h1.mono ?_
  clear h1
  rintro e w2 ⟨rfl, hb2⟩
  replace hA := Box.mk (hA.out.here hb2)
  replace hb := Box.mk (mono_bel hb.out hb2 (Nat.le_refl _))
  clear hb2 q0 q1 q2 q3 q4 q5
  try clear hw1
  obtain ⟨q0, q1, q2, q3, q4, q5⟩ := hA.out.cells
  obtain ⟨f0, f1, f2, f3, f4, f5⟩ := hA.out.frees
  obtain ⟨hA2, hc2⟩ := hA.out.put5 (.slice a N k)
  have hb3 := Box.mk (hb.out.trans (hc2.below hb.out.size fun i hi => by have hi : i = b := hi; omega))
  obtain ⟨w3, hw3⟩ : ∃ W, w2.setCell ⟨b, 5, none⟩ (.slice a N k) = W := ⟨_, rfl⟩
  rw [hw3] at hA2 hb3
  have qA := Box.mk fun w' (hx : Below w3.heap.size w3 w') => (hA2.here hx).cells
  have bW := Box.mk fun w' (hx : Below w3.heap.size w3 w') => (bel_of hb3.out hx : Below w.heap.size w w')
  clear hA hA2 hc2 hb q0 q1 q2 q3 q4 f0 f1 f2 f3 f4
  go_wp2_with fail
  refine region_quiet (fun w' => Below w3.heap.size w3 w') (by kernel_rfl) (by kernel_rfl) (dB _) ?_
  repeat (go_big_quiet_step (first | exact fun _ => rfl | rfl))
  refine quiet_val rfl (.agg #[.int .i64 v, .int .i64 s, .int .i64 c, .string h, .string t, .slice a N k]) (fun w' hw' => by obtain ⟨q0, q1, q2, q3, q4, q5⟩ := qA.out w' hw'; go_simp) ?_
  simp only [Act.put, List.setIfInBounds_toArray, List.set_cons_succ, List.set_cons_zero]
  repeat (go_big_quiet_step (first | exact fun _ => rfl | rfl))
  refine quiet_call rfl (.int .i64 I) (fun w' hw' => bel_call (fI.out w' (bW.out w' hw')) hw') (fun w' _ => by go_simp) ?_
  simp only [Act.put, List.setIfInBounds_toArray, List.set_cons_succ, List.set_cons_zero]
  repeat (go_big_quiet_step (first | exact fun _ => rfl | rfl))
  refine quiet_val rfl (.agg #[.int .i64 v, .int .i64 s, .int .i64 c, .string h, .string t, .slice a N k]) (fun w' hw' => by obtain ⟨q0, q1, q2, q3, q4, q5⟩ := qA.out w' hw'; go_simp) ?_
  simp only [Act.put, List.setIfInBounds_toArray, List.set_cons_succ, List.set_cons_zero]
  repeat (go_big_quiet_step (first | exact fun _ => rfl | rfl))
  refine quiet_call rfl (.int .i64 I) (fun w' hw' => bel_call (rI.out w' (bW.out w' hw')) hw') (fun w' _ => by go_simp) ?_
  simp only [Act.put, List.setIfInBounds_toArray, List.set_cons_succ, List.set_cons_zero]
  repeat (go_big_quiet_step (first | exact fun _ => rfl | rfl))
  refine quiet_val rfl (.agg #[.int .i64 v, .int .i64 s, .int .i64 c, .string h, .string t, .slice a N k]) (fun w' hw' => by obtain ⟨q0, q1, q2, q3, q4, q5⟩ := qA.out w' hw'; go_simp) ?_
  simp only [Act.put, List.setIfInBounds_toArray, List.set_cons_succ, List.set_cons_zero]
  repeat (go_big_quiet_step (first | exact fun _ => rfl | rfl))
  refine quiet_call rfl (.int .i64 J) (fun w' hw' => bel_call (fW.out w' (bW.out w' hw')) hw') (fun w' _ => by go_simp) ?_
  simp only [Act.put, List.setIfInBounds_toArray, List.set_cons_succ, List.set_cons_zero]
  repeat (go_big_quiet_step (first | exact fun _ => rfl | rfl))
  refine quiet_val rfl (.agg #[.int .i64 v, .int .i64 s, .int .i64 c, .string h, .string t, .slice a N k]) (fun w' hw' => by obtain ⟨q0, q1, q2, q3, q4, q5⟩ := qA.out w' hw'; go_simp) ?_
  simp only [Act.put, List.setIfInBounds_toArray, List.set_cons_succ, List.set_cons_zero]
  repeat (go_big_quiet_step (first | exact fun _ => rfl | rfl))
  refine quiet_call rfl (.int .i64 J) (fun w' hw' => bel_call (rW.out w' (bW.out w' hw')) hw') (fun w' _ => by go_simp) ?_
  simp only [Act.put, List.setIfInBounds_toArray, List.set_cons_succ, List.set_cons_zero]
  repeat (go_big_quiet_step (first | exact fun _ => rfl | rfl))
  refine wpQuiet_nil ?_
  intro w4 hw4
  have hfin := Box.mk (bW.out w4 hw4)
  go_wp2_with fail
  go_ret
  exact ⟨rfl, by first | exact hfin.out | exact hbe ▸ hfin.out⟩
end Go.Proofs.YtdnhpldcnmbncaaDoor.Bi
