/- meta: two documents that are alike; Hash. | meta: the document's example, sealed and opened. | meta: MetaBack walked. -/
import Derived.Test.YtiblkfkeifnpaaaGreatDoorZmz
set_option linter.all false
namespace Go.Proofs.YtiblkfkeifnpaaaGreatDoor.Me
open Go Go.RowKit Go.Proofs.YtiblkfkeifnpaaaGreatDoor Go.Proofs.YtiblkfkeifnpaaaGreatDoor.Nt
theorem setB_self (ids : List ByteArray) (n : Int) : setB ids n ids n = true := by unfold setB texB; simp
theorem sameset_at (s : SetM) (x y : Option Addr × Nat) (w : World) (h1 : PartsAt w (.slice x.1 s.1.length x.2) s.1) (h2 : PartsAt w (.slice y.1 s.1.length y.2) s.1) (hm : s.1.length ≤ maxLen) :
    Calls Tryz.prog 55 #[.agg #[.slice x.1 s.1.length x.2, .int .i64 s.2], .agg #[.slice y.1 s.1.length y.2, .int .i64 s.2]] w fun e w' => e = .returned (.bool true) ∧ Below w.heap.size w w' := by
  have h := sameset_any (.slice x.1 s.1.length x.2) (.slice y.1 s.1.length y.2) s.1 s.1 s.2 s.2 w h1 h2 hm
  rw [setB_self] at h
  exact h
theorem neq_tg (a b : Int) (c : ByteArray) (w : World) : (binOp .neq 42 (.agg #[.int .i64 a, .int .i64 b, .string c]) (.agg #[.int .i64 a, .int .i64 b, .string c])).run Tryz.prog w = .ok (.bool false) w := by
  have hS : Tryz.prog.underlying 42 = some (.struct (Tryz.prog.fieldsOf 42)) := by kernel_rfl
  have hp : Tryz.prog.stoodInHeld 42 = false := by kernel_rfl
  have u9 := Tryz.underlying9
  have u3 := Tryz.underlying3
  rw [run_neq_struct, show (10000 : Nat) = 9999 + 1 from rfl, run_equalIn_agg w 9999 42 _ _ hS hp]
  simp only [Program.fieldsOf, Tryz.underlying42]
  go_simp
set_option maxHeartbeats 3200000 in
set_option maxRecDepth 100000 in
theorem same_doc (d : Dc) (x z : Sl) (w : World) (hx : DcAt w x d) (hz : DcAt w z d) (ho : DcOk d) :
    Calls Tryz.prog 14 #[docV d x, docV d z] w fun e w' => e = .returned (.bool true) ∧ Below w.heap.size w w' := by
  obtain ⟨W1, hW1, hB1, hS1⟩ := doc_new w d x 30
  obtain ⟨W2, hW2, hB2, hS2⟩ := doc_new W1 d z 30
  have hB12 := Box.mk (mono_bel hB1.out hB2.out (Nat.le_refl _))
  replace hS1 := blk_here hS1 hB2.out
  obtain ⟨b1, hb1⟩ : ∃ b, w.heap.size = b := ⟨_, rfl⟩
  obtain ⟨b2, hb2⟩ : ∃ b, W1.heap.size = b := ⟨_, rfl⟩
  rw [hb1] at hS1
  rw [hb2] at hS2
  replace hS1 := Box.mk hS1
  replace hS2 := Box.mk hS2
  have hx2 := Box.mk (hx.here hB12.out)
  have hz2 := Box.mk (hz.here hB12.out)
  have hoB := Box.mk ho
  have hR0 : Box (Below W2.heap.size W2 W2) := ⟨Below.refl _ _⟩
  clear hx hz ho hB1 hB2
  show Calls _ _ #[.agg (docL _ x).toArray, .agg (docL _ z).toArray] w _
  go_enter Tryz.func14, Tryz.ntmps14
  go_wp2_with fail
  go_loopw [5] (fun q wr => ∃ i : Nat, i ≤ 4 ∧ q = .int .i64 (i : Int) ∧ Box (Below W2.heap.size W2 wr)) (fun q _ => 4 - (intOf q).toNat)
  case atStart => exact ⟨0, by omega, rfl, hR0⟩
  case round =>
    clear hR0
    obtain ⟨i, hi, rfl, hR⟩ := hrel
    rcases (show i = 0 ∨ i = 1 ∨ i = 2 ∨ i = 3 ∨ i = 4 by omega) with rfl | rfl | rfl | rfl | rfl
    · clear hi
      have hxw := hx2.out.here hR.out
      have hzw := hz2.out.here hR.out
      have hq := Box.mk fun (w' : World) (hb : Below wr.heap.size wr w') => sameset_at d.f.r0 x.a0 z.a0 w' (hxw.p0.here hb) (hzw.p0.here hb) hoB.out.l0
      have hS1r := Box.mk (blk_here hS1.out hR.out)
      have hS2r := Box.mk (blk_here hS2.out hR.out)
      have gA : ∀ w', Below wr.heap.size wr w' → w'.cell? ⟨b1, 3, none⟩ = some (.slice x.a0.1 d.f.r0.1.length x.a0.2) ∧ w'.cell? ⟨b1, 4, none⟩ = some (.int .i64 d.f.r0.2) := fun w' hb => ⟨(blk_here hS1r.out hb).cell 3, (blk_here hS1r.out hb).cell 4⟩
      have gB : ∀ w', Below wr.heap.size wr w' → w'.cell? ⟨b2, 3, none⟩ = some (.slice z.a0.1 d.f.r0.1.length z.a0.2) ∧ w'.cell? ⟨b2, 4, none⟩ = some (.int .i64 d.f.r0.2) := fun w' hb => ⟨(blk_here hS2r.out hb).cell 3, (blk_here hS2r.out hb).cell 4⟩
      replace gA := Box.mk gA
      replace gB := Box.mk gB
      clear hxw hzw hS1r hS2r
      go_wp2_with fail
      refine region_quiet (fun w' => Below wr.heap.size wr w') rfl (by kernel_rfl) (Drawn.below ⟨1, rfl⟩) ?_
      repeat (go_big_quiet_step (first | exact fun _ => rfl | rfl))
      refine quiet_val rfl (.agg #[(.slice x.a0.1 d.f.r0.1.length x.a0.2), .int .i64 d.f.r0.2]) (fun w' hw' => by obtain ⟨g1, g2⟩ := gA.out w' hw'; go_simp) ?_
      simp only [Act.put, List.setIfInBounds_toArray, List.set_cons_succ, List.set_cons_zero]
      repeat (go_big_quiet_step (first | exact fun _ => rfl | rfl))
      refine quiet_val rfl (.agg #[(.slice z.a0.1 d.f.r0.1.length z.a0.2), .int .i64 d.f.r0.2]) (fun w' hw' => by obtain ⟨g1, g2⟩ := gB.out w' hw'; go_simp) ?_
      simp only [Act.put, List.setIfInBounds_toArray, List.set_cons_succ, List.set_cons_zero]
      repeat (go_big_quiet_step (first | exact fun _ => rfl | rfl))
      refine quiet_call rfl (.bool true) (fun w' hw' => (hq.out w' hw').mono fun e w2 h => ⟨h.1, mono_bel hw' h.2 (Nat.le_refl _)⟩) (fun w' _ => by go_simp) ?_
      simp only [Act.put, List.setIfInBounds_toArray, List.set_cons_succ, List.set_cons_zero]
      repeat (go_big_quiet_step (first | exact fun _ => rfl | rfl))
      refine wpQuiet_nil ?_
      intro w9 hb9
      have hR9 := Box.mk (mono_bel hR.out hb9 (Nat.le_refl _))
      clear hb9 hq gA gB
      go_wp2_with fail
      exact ⟨⟨1, by omega, rfl, hR9⟩, by simp [intOf]⟩
    · clear hi
      have hxw := hx2.out.here hR.out
      have hzw := hz2.out.here hR.out
      have hq := Box.mk fun (w' : World) (hb : Below wr.heap.size wr w') => sameset_at d.f.r1 x.a1 z.a1 w' (hxw.p1.here hb) (hzw.p1.here hb) hoB.out.l1
      have hS1r := Box.mk (blk_here hS1.out hR.out)
      have hS2r := Box.mk (blk_here hS2.out hR.out)
      have gA : ∀ w', Below wr.heap.size wr w' → w'.cell? ⟨b1, 5, none⟩ = some (.slice x.a1.1 d.f.r1.1.length x.a1.2) ∧ w'.cell? ⟨b1, 6, none⟩ = some (.int .i64 d.f.r1.2) := fun w' hb => ⟨(blk_here hS1r.out hb).cell 5, (blk_here hS1r.out hb).cell 6⟩
      have gB : ∀ w', Below wr.heap.size wr w' → w'.cell? ⟨b2, 5, none⟩ = some (.slice z.a1.1 d.f.r1.1.length z.a1.2) ∧ w'.cell? ⟨b2, 6, none⟩ = some (.int .i64 d.f.r1.2) := fun w' hb => ⟨(blk_here hS2r.out hb).cell 5, (blk_here hS2r.out hb).cell 6⟩
      replace gA := Box.mk gA
      replace gB := Box.mk gB
      clear hxw hzw hS1r hS2r
      go_wp2_with fail
      refine region_quiet (fun w' => Below wr.heap.size wr w') rfl (by kernel_rfl) (Drawn.below ⟨1, rfl⟩) ?_
      repeat (go_big_quiet_step (first | exact fun _ => rfl | rfl))
      refine quiet_val rfl (.agg #[(.slice x.a1.1 d.f.r1.1.length x.a1.2), .int .i64 d.f.r1.2]) (fun w' hw' => by obtain ⟨g1, g2⟩ := gA.out w' hw'; go_simp) ?_
      simp only [Act.put, List.setIfInBounds_toArray, List.set_cons_succ, List.set_cons_zero]
      repeat (go_big_quiet_step (first | exact fun _ => rfl | rfl))
      refine quiet_val rfl (.agg #[(.slice z.a1.1 d.f.r1.1.length z.a1.2), .int .i64 d.f.r1.2]) (fun w' hw' => by obtain ⟨g1, g2⟩ := gB.out w' hw'; go_simp) ?_
      simp only [Act.put, List.setIfInBounds_toArray, List.set_cons_succ, List.set_cons_zero]
      repeat (go_big_quiet_step (first | exact fun _ => rfl | rfl))
      refine quiet_call rfl (.bool true) (fun w' hw' => (hq.out w' hw').mono fun e w2 h => ⟨h.1, mono_bel hw' h.2 (Nat.le_refl _)⟩) (fun w' _ => by go_simp) ?_
      simp only [Act.put, List.setIfInBounds_toArray, List.set_cons_succ, List.set_cons_zero]
      repeat (go_big_quiet_step (first | exact fun _ => rfl | rfl))
      refine wpQuiet_nil ?_
      intro w9 hb9
      have hR9 := Box.mk (mono_bel hR.out hb9 (Nat.le_refl _))
      clear hb9 hq gA gB
      go_wp2_with fail
      exact ⟨⟨2, by omega, rfl, hR9⟩, by simp [intOf]⟩
    · clear hi
      have hxw := hx2.out.here hR.out
      have hzw := hz2.out.here hR.out
      have hq := Box.mk fun (w' : World) (hb : Below wr.heap.size wr w') => sameset_at d.f.r2 x.a2 z.a2 w' (hxw.p2.here hb) (hzw.p2.here hb) hoB.out.l2
      have hS1r := Box.mk (blk_here hS1.out hR.out)
      have hS2r := Box.mk (blk_here hS2.out hR.out)
      have gA : ∀ w', Below wr.heap.size wr w' → w'.cell? ⟨b1, 7, none⟩ = some (.slice x.a2.1 d.f.r2.1.length x.a2.2) ∧ w'.cell? ⟨b1, 8, none⟩ = some (.int .i64 d.f.r2.2) := fun w' hb => ⟨(blk_here hS1r.out hb).cell 7, (blk_here hS1r.out hb).cell 8⟩
      have gB : ∀ w', Below wr.heap.size wr w' → w'.cell? ⟨b2, 7, none⟩ = some (.slice z.a2.1 d.f.r2.1.length z.a2.2) ∧ w'.cell? ⟨b2, 8, none⟩ = some (.int .i64 d.f.r2.2) := fun w' hb => ⟨(blk_here hS2r.out hb).cell 7, (blk_here hS2r.out hb).cell 8⟩
      replace gA := Box.mk gA
      replace gB := Box.mk gB
      clear hxw hzw hS1r hS2r
      go_wp2_with fail
      refine region_quiet (fun w' => Below wr.heap.size wr w') rfl (by kernel_rfl) (Drawn.below ⟨1, rfl⟩) ?_
      repeat (go_big_quiet_step (first | exact fun _ => rfl | rfl))
      refine quiet_val rfl (.agg #[(.slice x.a2.1 d.f.r2.1.length x.a2.2), .int .i64 d.f.r2.2]) (fun w' hw' => by obtain ⟨g1, g2⟩ := gA.out w' hw'; go_simp) ?_
      simp only [Act.put, List.setIfInBounds_toArray, List.set_cons_succ, List.set_cons_zero]
      repeat (go_big_quiet_step (first | exact fun _ => rfl | rfl))
      refine quiet_val rfl (.agg #[(.slice z.a2.1 d.f.r2.1.length z.a2.2), .int .i64 d.f.r2.2]) (fun w' hw' => by obtain ⟨g1, g2⟩ := gB.out w' hw'; go_simp) ?_
      simp only [Act.put, List.setIfInBounds_toArray, List.set_cons_succ, List.set_cons_zero]
      repeat (go_big_quiet_step (first | exact fun _ => rfl | rfl))
      refine quiet_call rfl (.bool true) (fun w' hw' => (hq.out w' hw').mono fun e w2 h => ⟨h.1, mono_bel hw' h.2 (Nat.le_refl _)⟩) (fun w' _ => by go_simp) ?_
      simp only [Act.put, List.setIfInBounds_toArray, List.set_cons_succ, List.set_cons_zero]
      repeat (go_big_quiet_step (first | exact fun _ => rfl | rfl))
      refine wpQuiet_nil ?_
      intro w9 hb9
      have hR9 := Box.mk (mono_bel hR.out hb9 (Nat.le_refl _))
      clear hb9 hq gA gB
      go_wp2_with fail
      exact ⟨⟨3, by omega, rfl, hR9⟩, by simp [intOf]⟩
    · clear hi
      have hxw := hx2.out.here hR.out
      have hzw := hz2.out.here hR.out
      have hq := Box.mk fun (w' : World) (hb : Below wr.heap.size wr w') => sameset_at d.f.r3 x.a3 z.a3 w' (hxw.p3.here hb) (hzw.p3.here hb) hoB.out.l3
      have hS1r := Box.mk (blk_here hS1.out hR.out)
      have hS2r := Box.mk (blk_here hS2.out hR.out)
      have gA : ∀ w', Below wr.heap.size wr w' → w'.cell? ⟨b1, 9, none⟩ = some (.slice x.a3.1 d.f.r3.1.length x.a3.2) ∧ w'.cell? ⟨b1, 10, none⟩ = some (.int .i64 d.f.r3.2) := fun w' hb => ⟨(blk_here hS1r.out hb).cell 9, (blk_here hS1r.out hb).cell 10⟩
      have gB : ∀ w', Below wr.heap.size wr w' → w'.cell? ⟨b2, 9, none⟩ = some (.slice z.a3.1 d.f.r3.1.length z.a3.2) ∧ w'.cell? ⟨b2, 10, none⟩ = some (.int .i64 d.f.r3.2) := fun w' hb => ⟨(blk_here hS2r.out hb).cell 9, (blk_here hS2r.out hb).cell 10⟩
      replace gA := Box.mk gA
      replace gB := Box.mk gB
      clear hxw hzw hS1r hS2r
      go_wp2_with fail
      refine region_quiet (fun w' => Below wr.heap.size wr w') rfl (by kernel_rfl) (Drawn.below ⟨1, rfl⟩) ?_
      repeat (go_big_quiet_step (first | exact fun _ => rfl | rfl))
      refine quiet_val rfl (.agg #[(.slice x.a3.1 d.f.r3.1.length x.a3.2), .int .i64 d.f.r3.2]) (fun w' hw' => by obtain ⟨g1, g2⟩ := gA.out w' hw'; go_simp) ?_
      simp only [Act.put, List.setIfInBounds_toArray, List.set_cons_succ, List.set_cons_zero]
      repeat (go_big_quiet_step (first | exact fun _ => rfl | rfl))
      refine quiet_val rfl (.agg #[(.slice z.a3.1 d.f.r3.1.length z.a3.2), .int .i64 d.f.r3.2]) (fun w' hw' => by obtain ⟨g1, g2⟩ := gB.out w' hw'; go_simp) ?_
      simp only [Act.put, List.setIfInBounds_toArray, List.set_cons_succ, List.set_cons_zero]
      repeat (go_big_quiet_step (first | exact fun _ => rfl | rfl))
      refine quiet_call rfl (.bool true) (fun w' hw' => (hq.out w' hw').mono fun e w2 h => ⟨h.1, mono_bel hw' h.2 (Nat.le_refl _)⟩) (fun w' _ => by go_simp) ?_
      simp only [Act.put, List.setIfInBounds_toArray, List.set_cons_succ, List.set_cons_zero]
      repeat (go_big_quiet_step (first | exact fun _ => rfl | rfl))
      refine wpQuiet_nil ?_
      intro w9 hb9
      have hR9 := Box.mk (mono_bel hR.out hb9 (Nat.le_refl _))
      clear hb9 hq gA gB
      go_wp2_with fail
      exact ⟨⟨4, by omega, rfl, hR9⟩, by simp [intOf]⟩
    · clear hi
      obtain ⟨L, hL⟩ : ∃ L, d.f.ls.length = L := ⟨_, rfl⟩
      have hLB := Box.mk hL
      have hl := hoB.out.ll
      rw [hL] at hl
      have hl := Nat.le_trans hl (show maxLen ≤ 9223372036854775807 by decide)
      have gC : Box (∀ w', Below W2.heap.size W2 w' → w'.cell? ⟨b1, 15, none⟩ = some (.slice x.al.1 L x.al.2) ∧ w'.cell? ⟨b2, 15, none⟩ = some (.slice z.al.1 L z.al.2)) := ⟨fun w' hb => by rw [← hL]; exact ⟨(blk_here hS1.out hb).cell 15, (blk_here hS2.out hb).cell 15⟩⟩
      obtain ⟨c1, c2⟩ := gC.out wr hR.out
      clear hL
      go_wp2_with fail
      clear c1 c2
      go_loopw [6] (fun q wt => ∃ i : Nat, i ≤ L ∧ q = .int .i64 (i : Int) ∧ Box (Below W2.heap.size W2 wt)) (fun q _ => L - (intOf q).toNat)
      case atStart => exact ⟨0, by omega, rfl, hR⟩
      case round =>
        clear hR
        obtain ⟨i, hi, rfl, hR⟩ := hrel
        by_cases hlt : i < L
        · have hig : i < d.f.ls.length := by rw [hLB.out]; exact hlt
          obtain ⟨a1, k1, e1, hh1⟩ := (hx2.out.here hR.out).pl.ex
          obtain ⟨q1, o1, hq1, hl1, hc1⟩ := hh1 (by omega)
          obtain ⟨a2, k2, e2, hh2⟩ := (hz2.out.here hR.out).pl.ex
          obtain ⟨q2, o2, hq2, hl2, hc2⟩ := hh2 (by omega)
          have f1 : x.al.1 = some ⟨q1, o1, none⟩ := by rw [← hq1]; exact (Value.slice.inj e1).1
          have f2 : z.al.1 = some ⟨q2, o2, none⟩ := by rw [← hq2]; exact (Value.slice.inj e2).1
          obtain ⟨u1, u2, u3⟩ := hc1 i hig
          obtain ⟨t1, t2, t3⟩ := hc2 i hig
          obtain ⟨y, hy⟩ : ∃ y, d.f.ls.getD i default = y := ⟨_, rfl⟩
          rw [hy] at u1 u2 u3 t1 t2 t3
          obtain ⟨ya, yb, yc⟩ := y
          dsimp only at u1 u2 u3 t1 t2 t3
          have gX : ∀ w', Below wr.heap.size wr w' → (w'.cell? ⟨b1, 15, none⟩ = some (.slice (some ⟨q1, o1, none⟩) L x.al.2) ∧ w'.cell? ⟨b2, 15, none⟩ = some (.slice (some ⟨q2, o2, none⟩) L z.al.2)) ∧ (w'.cell? ⟨q1, o1 + i * 3, none⟩ = some (.int .i64 ya) ∧ w'.cell? ⟨q1, o1 + i * 3 + 1, none⟩ = some (.int .i64 yb) ∧ w'.cell? ⟨q1, o1 + i * 3 + 2, none⟩ = some (.string yc)) ∧ (w'.cell? ⟨q2, o2 + i * 3, none⟩ = some (.int .i64 ya) ∧ w'.cell? ⟨q2, o2 + i * 3 + 1, none⟩ = some (.int .i64 yb) ∧ w'.cell? ⟨q2, o2 + i * 3 + 2, none⟩ = some (.string yc)) := fun w' hb =>
            ⟨by rw [← f1, ← f2]; exact gC.out w' (mono_bel hR.out hb (Nat.le_refl _)), ⟨(hb.cell (p := ⟨q1, o1 + i * 3, none⟩) hl1).trans u1, (hb.cell (p := ⟨q1, o1 + i * 3 + 1, none⟩) hl1).trans u2, (hb.cell (p := ⟨q1, o1 + i * 3 + 2, none⟩) hl1).trans u3⟩, (hb.cell (p := ⟨q2, o2 + i * 3, none⟩) hl2).trans t1, (hb.cell (p := ⟨q2, o2 + i * 3 + 1, none⟩) hl2).trans t2, (hb.cell (p := ⟨q2, o2 + i * 3 + 2, none⟩) hl2).trans t3⟩
          replace gX := Box.mk gX
          have hii : (i : Int) < (L : Int) := by omega
          have hnq := Box.mk (neq_tg ya yb yc)
          obtain ⟨c1, c2⟩ := (gX.out wr (Below.refl _ _)).1
          clear u1 u2 u3 t1 t2 t3 hy hc1 hc2 hh1 hh2 e1 e2 hq1 hq2 f1 f2 hig hl1 hl2
          go_wp2_with fail
          refine region_quiet (fun w' => Below wr.heap.size wr w') rfl (by kernel_rfl) (Drawn.below ⟨1, rfl⟩) ?_
          clear c1 c2
          repeat (go_big_quiet_step (first | exact fun _ => rfl | rfl))
          refine quiet_val rfl (.slice (some ⟨q1, o1, none⟩) L x.al.2) (fun w' hw' => by obtain ⟨⟨g1, g2⟩, _⟩ := gX.out w' hw'; go_simp) ?_
          simp only [Act.put, List.setIfInBounds_toArray, List.set_cons_succ, List.set_cons_zero]
          repeat (go_big_quiet_step (first | exact fun _ => rfl | rfl))
          refine quiet_val rfl (.agg #[.int .i64 ya, .int .i64 yb, .string yc]) (fun w' hw' => by obtain ⟨_, ⟨g1, g2, g3⟩, _⟩ := gX.out w' hw'; go_simp) ?_
          simp only [Act.put, List.setIfInBounds_toArray, List.set_cons_succ, List.set_cons_zero]
          repeat (go_big_quiet_step (first | exact fun _ => rfl | rfl))
          refine quiet_val rfl (.slice (some ⟨q2, o2, none⟩) L z.al.2) (fun w' hw' => by obtain ⟨⟨g1, g2⟩, _⟩ := gX.out w' hw'; go_simp) ?_
          simp only [Act.put, List.setIfInBounds_toArray, List.set_cons_succ, List.set_cons_zero]
          repeat (go_big_quiet_step (first | exact fun _ => rfl | rfl))
          refine quiet_val rfl (.agg #[.int .i64 ya, .int .i64 yb, .string yc]) (fun w' hw' => by obtain ⟨_, _, g1, g2, g3⟩ := gX.out w' hw'; go_simp) ?_
          simp only [Act.put, List.setIfInBounds_toArray, List.set_cons_succ, List.set_cons_zero]
          repeat (go_big_quiet_step (first | exact fun _ => rfl | rfl))
          refine wpQuiet_nil ?_
          intro w9 hb9
          have hR9 := Box.mk (mono_bel hR.out hb9 (Nat.le_refl _))
          clear hb9 gX
          go_wp2_with fail
          exact ⟨⟨i + 1, by omega, by go_num, hR9⟩, by simp [intOf]; omega⟩
        · obtain rfl : i = L := by omega
          obtain ⟨c1, c2⟩ := gC.out wr hR.out
          obtain ⟨s0, s1, s2, s3, s4, s5, s6, s7, s8, s9, s10, s11, s12, s13, s14, -, s16, s17, s18, s19, s20⟩ := doc_cells (blk_here hS1.out hR.out)
          obtain ⟨r0, r1, r2, r3, r4, r5, r6, r7, r8, r9, r10, r11, r12, r13, r14, -, r16, r17, r18, r19, r20⟩ := doc_cells (blk_here hS2.out hR.out)
          have hq := sameset_at d.f.wt x.aw z.aw wr (hx2.out.here hR.out).pw (hz2.out.here hR.out).pw hoB.out.lw
          clear s3 r3 s4 r4 s5 r5 s6 r6 s7 r7 s8 r8 s9 r9 s10 r10
          go_wp2_with fail
          refine hq.mono ?_
          clear hq s0 r0 s1 r1 s2 r2 s11 r11 s12 r12 s13 r13 s14 r14 s16 r16 s17 r17 s18 r18 s19 r19 s20 r20 c1 c2
          rintro e w9 ⟨rfl, hb9⟩
          have hR9 := Box.mk (mono_bel hR.out hb9 (Nat.le_refl _))
          have hS1r := blk_here hS1.out hR9.out
          have hS2r := blk_here hS2.out hR9.out
          clear hb9
          obtain ⟨-, -, -, -, -, -, -, -, -, -, -, -, -, s13, s14, -, s16, s17, s18, s19, s20⟩ := doc_cells hS1r
          obtain ⟨-, -, -, -, -, -, -, -, -, -, -, -, -, r13, r14, -, r16, r17, r18, r19, r20⟩ := doc_cells hS2r
          clear hS1r hS2r
          go_wp2_with fail
          go_returns
          exact ⟨by first | rfl | simp, mono_bel hB12.out hR9.out (Nat.le_refl _)⟩
end Go.Proofs.YtiblkfkeifnpaaaGreatDoor.Me

namespace Go.Proofs.YtiblkfkeifnpaaaGreatDoor.Me
open Go Go.RowKit Go.Proofs.YtiblkfkeifnpaaaGreatDoor Go.Proofs.YtiblkfkeifnpaaaGreatDoor.Nt
def exD : Dc := ⟨4, 1, 9, { fl0 with oo := 1, hs := z32 }⟩
def exB : ByteArray := Pk.btx (layD exD)
theorem ex_chk : chkD exD = true := by decide +kernel
theorem ex_size : exB.size = 45 := by decide +kernel
theorem ex_head : (exB.extract 0 3).toList = [4, 0, 1] := by rw [ByteArray.toList_eq]; decide +kernel
theorem ex_enc : encR exD = .tuple #[.string exB, .int .i64 0] := by unfold encR encV; rw [ex_chk]; rfl
theorem ex_sealB : sealB exB [] = true := by unfold sealB; rw [ex_size]; rfl
def exS : ByteArray := Pk.btx (laySe (exB, []))
theorem ex_seal : sealR exB [] = .tuple #[.string exS, .int .i64 0] := seal_yes ex_sealB
theorem ex_open : opM exS.data.toList 4 [] = (exD, exB, 0) := by
  have h1 : unsM exS.data.toList = (exB, [], 0) := by unfold exS; rw [Pk.mk_list]; exact uns_back ex_sealB
  have h2 : decM exB.data.toList = (exD, 0) := by unfold exB; rw [Pk.mk_list]; exact dec_back ex_chk
  unfold opM
  rw [h1]
  dsimp only
  rw [h2]
  rfl
theorem ex_ok : DcOk exD := ⟨Nat.zero_le _, Nat.zero_le _, Nat.zero_le _, Nat.zero_le _, Nat.zero_le _, Nat.zero_le _, Nat.zero_le _, Nat.zero_le _, Nat.zero_le _⟩
theorem dc_zero (w : World) (k v x : Int) (f : Fl) (h0 : f.r0 = z0) (h1 : f.r1 = z0) (h2 : f.r2 = z0) (h3 : f.r3 = z0) (h4 : f.wt = z0) (h5 : f.ls = []) : DcAt w zz0 ⟨k, v, x, f⟩ := by
  obtain ⟨r0, r1, r2, r3, wt, lg, og, ls, pt, oo, hs⟩ := f
  dsimp only at h0 h1 h2 h3 h4 h5
  subst h0 h1 h2 h3 h4 h5
  have h := (DcR.zero w.heap.size w).at_
  exact ⟨h.p0, h.p1, h.p2, h.p3, h.pw, h.pl⟩
theorem built_ex (s : ByteArray) : Tryz.prog.built 30 [(0, .int .i64 4), (1, .int .i64 1), (2, .int .i64 9), (9, .int .i64 1), (10, .string s)] = some (docL ⟨4, 1, 9, { fl0 with oo := 1, hs := s }⟩ zz0).toArray := by kernel_rfl
theorem zconv {w : World} {a : Option Addr} {c : Nat} (h : w.ownsRow 0 5 1 (.slice a 32 c) 32 (madeCells (Value.int .u8 0).cells (32 * 1)).toList) : (convert 52 9 (.slice a 32 c)).run Tryz.prog w = .ok (.string z32) w :=
  Pk.own_text (l := List.replicate 32 0) (by
    have e : (madeCells (Value.int .u8 0).cells (32 * 1)).toList = (List.replicate 32 (0 : UInt8)).map Pk.yc := by
      have := toList_madeCells_one (.int .u8 0) (32 * 1)
      rw [Nat.mul_one] at this
      rw [Nat.mul_one, List.map_replicate]
      exact this
    show w.ownsRow 0 5 1 _ 32 ((List.replicate 32 (0 : UInt8)).map Pk.yc)
    rw [← e]; exact h)
theorem info_u8 : (Tryz.prog.info? 5).map (fun i => (i.zero, i.size, i.bytes)) = some (some (.int .u8 0), 1, 1) := by kernel_rfl
set_option maxHeartbeats 3200000 in
set_option maxRecDepth 100000 in
theorem seals_any (B : Nat) (w : World) (hL : NL B w) (hB : B ≤ w.heap.size) :
    Calls Tryz.prog 7 #[] w fun e w' => e = .returned (.bool true) ∧ Below w.heap.size w w' := by
  have hLB := Box.mk fun (w' : World) (hb : Below w.heap.size w w') => (⟨hL.here hB hb, by have := hb.size; omega⟩ : NL B w' ∧ B ≤ w'.heap.size)
  obtain ⟨i0, hi0, hz0, hz1, hz2⟩ := info_parts info_u8
  have hH := Box.mk (And.intro hi0 (And.intro hz0 (And.intro hz1 hz2)))
  clear hL hB hi0 hz0 hz1 hz2
  go_enter Tryz.func7, Tryz.ntmps7
  go_wp2_with (first
    | (at_make; refine wpList_make_full _ rfl (.const (.int .i64 32)) (.const (.int .i64 32)) 52 rfl 0 5 i0 (.int .u8 0) 1 Tryz.underlying52 hH.out.1 hH.out.2.1 hH.out.2.2.1 .i64 .i64 _ _ 32 rfl rfl rfl rfl (by rw [hH.out.2.2.2]; omega) (by unfold maxLen; omega) (Nat.zero_le _) ?_; intro w2 hown hg; have hcv := zconv hown; have hb2 : Box (Below w.heap.size w w2) := ⟨⟨hg.os, hg.tape, hg.output, hg.size, fun k hk => hg.block k hk (by simp)⟩⟩; have hSz := Box.mk (Pk.Blk.new w2 (docL dc0 zz0) 30); have hwe := Box.mk (@store_new w2); clear hown hg)
    | (refine wpList_buildD rfl 30 [(0, .const (.int .i64 4)), (1, .const (.int .i64 1)), (2, .const (.int .i64 9)), (9, .const (.int .i64 1)), (10, .tmp 10)] rfl [(0, .int .i64 4), (1, .int .i64 1), (2, .int .i64 9), (9, .int .i64 1), (10, .string z32)] rfl (docL exD zz0) (built_ex _) ?_)
    | (refine wpList_store_doc rfl (.tmp 1) (.tmp 11) rfl _ exD zz0 rfl rfl hSz.out rfl ?_; intro w4 hw4; have hN := Box.mk (hwe.out hw4); clear hw4 hwe hSz)
    | (refine wpList_loadG (by rfl) 30 (.tmp 1) rfl _ 0 rfl (docL exD zz0) _ (blk_range hN.out.2) Tryz.underlying30 rfl (doc_size _ _) ?_))
  have hDz : Box (∀ w', DcAt w' zz0 exD) := ⟨fun w' => dc_zero w' 4 1 9 _ rfl rfl rfl rfl rfl rfl⟩
  have hb4 := Box.mk (mono_bel hb2.out hN.out.1 (Nat.le_refl _))
  obtain ⟨bd, hbd⟩ : ∃ b, w2.heap.size = b := ⟨_, rfl⟩
  rw [hbd] at hN ⊢
  replace hN := Box.mk hN.out.2
  obtain ⟨hl1, hl2⟩ := hLB.out w4 hb4.out
  have hq := encode_any exD zz0 B w4 hl1 hl2 (hDz.out w4) ex_ok
  rw [ex_enc] at hq
  have eX := Box.mk ex_size
  have eY := Box.mk ex_head
  have eQ := Box.mk (fun w' => seal_any exB none 0 0 [] w' ⟨none, 0, rfl, fun h => absurd h (by decide)⟩ rfl (by decide))
  have eO := Box.mk (fun (w' : World) (h1 : NL B w') (h2 : B ≤ w'.heap.size) => open_any exS 4 none 0 0 [] B w' h1 h2 (SetsAt.nil w') rfl (by decide) (fun x hx => by cases hx) (fun h => absurd rfl h))
  rw [ex_seal] at eQ
  unfold OpS at eO
  rw [ex_open] at eO
  dsimp only at eO
  have eD := Box.mk (fun (w' : World) (z : Sl) (h : DcAt w' z exD) => same_doc exD z zz0 w' h (hDz.out w') ex_ok)
  generalize exB = xb at *
  generalize exS = xs at *
  generalize exD = xd at *
  clear hl1 hl2 hb2 hH hbd
  refine hq.mono ?_
  clear hq
  rintro r w5 ⟨rfl, hb⟩
  have hb5 := Box.mk (mono_bel hb4.out hb (Nat.le_refl _))
  replace hN := Box.mk (blk_here hN.out hb)
  have hq := eQ.out w5
  clear hb hb4 eQ
  go_wp2_with fail
  refine hq.mono ?_
  clear hq
  rintro r w6 ⟨rfl, hb⟩
  have hb6 := Box.mk (mono_bel hb5.out hb (Nat.le_refl _))
  replace hN := Box.mk (blk_here hN.out hb)
  obtain ⟨hl1, hl2⟩ := hLB.out w6 hb6.out
  have hq := eO.out w6 hl1 hl2
  clear hb hb5 eO hl1 hl2 hLB
  go_wp2_with fail
  refine hq.mono ?_
  clear hq
  rintro r w7 ⟨⟨z, rfl, hrz⟩, hb⟩
  have hb7 := Box.mk (mono_bel hb6.out hb (Nat.le_refl _))
  replace hN := Box.mk (blk_here hN.out hb)
  have hSz := Box.mk (Pk.Blk.new w7 (docL dc0 zz0) 30)
  have hwe := Box.mk (@store_new w7)
  have hrz := Box.mk hrz
  clear hb hb6
  have eX1 := eX.out
  have eY1 := eY.out
  obtain ⟨b6, hb6⟩ : ∃ b, w7.heap.size = b := ⟨_, rfl⟩
  have hT : Box (∀ W, (w7.alloc (.cells #[.int .i64 0, .int .i64 0, .int .i64 0, .slice none 0 0, .int .i64 0, .slice none 0 0, .int .i64 0, .slice none 0 0, .int .i64 0, .slice none 0 0, .int .i64 0, .slice none 0 0, .int .i64 0, .string ⟨#[]⟩, .string ⟨#[]⟩, .slice none 0 0, .string ⟨#[]⟩, .int .i64 0, .string ⟨#[]⟩, .int .i64 0, .string ⟨#[]⟩] 30)).setCells b6 0 (docL xd z) = W → Below w7.heap.size w7 W ∧ Pk.Blk W b6 (docL xd z) 30) := ⟨fun W h => by rw [← hb6] at h ⊢; exact hwe.out h⟩
  rw [hb6] at hSz
  have hSz : Box (Pk.Blk (w7.alloc (.cells #[.int .i64 0, .int .i64 0, .int .i64 0, .slice none 0 0, .int .i64 0, .slice none 0 0, .int .i64 0, .slice none 0 0, .int .i64 0, .slice none 0 0, .int .i64 0, .slice none 0 0, .int .i64 0, .string ⟨#[]⟩, .string ⟨#[]⟩, .slice none 0 0, .string ⟨#[]⟩, .int .i64 0, .string ⟨#[]⟩, .int .i64 0, .string ⟨#[]⟩] 30)) b6 (docL dc0 zz0) 30) := hSz
  clear hwe eX eY
  go_wp2_with (first
    | (refine wpList_store_doc rfl (.tmp 6) (.tmp 25) rfl b6 xd z (by first | rfl | (rw [← hb6]; rfl)) rfl hSz.out rfl ?_; intro w8 hw8; have hM := Box.mk (hT.out w8 hw8); clear hw8 hT hSz)
    | (refine wpList_loadG (by rfl) 30 (.tmp 6) rfl b6 0 rfl (docL xd z) _ (blk_range hM.out.2) Tryz.underlying30 rfl (doc_size _ _) ?_)
    | (refine wpList_loadG (by rfl) 30 (.tmp 1) rfl bd 0 rfl (docL xd zz0) _ (blk_range (blk_here hN.out hM.out.1)) Tryz.underlying30 rfl (doc_size _ _) ?_))
  have hq := eD.out w8 z ((hrz.out.below hM.out.1).at_)
  refine hq.mono ?_
  clear hq
  rintro r w9 ⟨rfl, hb⟩
  have hb9 := Box.mk (mono_bel (mono_bel hb7.out hM.out.1 (Nat.le_refl _)) hb (Nat.le_refl _))
  clear hb
  go_wp2_with fail
  go_ret
  exact ⟨by first | rfl | simp, hb9.out⟩
end Go.Proofs.YtiblkfkeifnpaaaGreatDoor.Me

namespace Go.Proofs.YtiblkfkeifnpaaaGreatDoor.Me
open Go Go.RowKit Go.Proofs.YtiblkfkeifnpaaaGreatDoor Go.Proofs.YtiblkfkeifnpaaaGreatDoor.Nt
theorem layD_pos (d : Dc) : 11 ≤ (layD d).length := by
  unfold layD
  rw [List.length_append, List.length_append, List.length_append, Pk.beN_length, Pk.beN_length, Pk.beN_length]
  omega
theorem laySt_len {s : SetM} (h : stOk s) : (laySt s).length ≤ 514 := by
  have f : ∀ l : List ByteArray, (∀ x ∈ l, x.size = 32) → (l.flatMap fun x => x.data.toList).length = 32 * l.length := by
    intro l hl
    induction l with
    | nil => rfl
    | cons x l ih =>
      rw [List.flatMap_cons, List.length_append, ih fun y hy => hl y (List.mem_cons_of_mem _ hy), data_len, hl x (List.mem_cons_self ..), List.length_cons]; omega
  have := ((chkB_iff _ _).1 h).2.2.1
  rw [laySt, List.length_append, List.length_append, Pk.beN_length, Pk.beN_length, f _ (chk_sizes h)]
  omega
theorem layLs_len {ts : List TgM} (h : ∀ t ∈ ts, tgOk t) : (ts.flatMap layTg).length = 35 * ts.length := by
  induction ts with
  | nil => rfl
  | cons t ts ih =>
    rw [List.flatMap_cons, List.length_append, ih fun y hy => h y (List.mem_cons_of_mem _ hy), List.length_cons, layTg, List.length_append, List.length_append, Pk.beN_length, Pk.beN_length, data_len, (h t (List.mem_cons_self ..)).2.2]
    omega
theorem textL_len (s : ByteArray) : (Pk.textL s).length = 2 + s.size := by rw [Pk.textL, List.length_append, Pk.beN_length, data_len]
theorem layD_len {d : Dc} (h : chkD d = true) : (layD d).length ≤ 5000 := by
  obtain ⟨hl, hk⟩ := chk_len h
  obtain ⟨-, -, -, h4⟩ := chk_ok h
  have : (layFl d.k d.f).length ≤ 4900 := by
    unfold flOk at h4
    unfold layFl
    rcases hk with hk | hk | hk | hk <;> rw [hk] at h4 ⊢
    · rw [if_pos rfl] at h4 ⊢
      obtain ⟨⟨c0, c1, c2, c3, c4, c5, c6⟩, -⟩ := h4
      have := laySt_len c0; have := laySt_len c1; have := laySt_len c2; have := laySt_len c3; have := laySt_len c4
      unfold layRu
      rw [List.length_append, List.length_append, List.length_append, List.length_append, List.length_append, List.length_append, data_len, textL_len, c5]
      omega
    · rw [if_neg (by decide), if_pos rfl] at h4 ⊢
      rw [layLs, List.length_append, Pk.beN_length, layLs_len h4.1.2]
      omega
    · rw [if_neg (by decide), if_neg (by decide), if_pos rfl] at h4 ⊢
      obtain ⟨⟨c0, c1, c2, c3, c4⟩, -⟩ := h4
      unfold laySn
      rw [List.length_append, List.length_append, List.length_append, List.length_append, data_len, data_len, textL_len, Pk.beN_length, Pk.beN_length, c1, c4]
      omega
    · rw [if_neg (by decide), if_neg (by decide), if_neg (by decide), if_pos rfl] at h4 ⊢
      obtain ⟨⟨c0, c1⟩, -⟩ := h4
      unfold layLk
      rw [List.length_append, data_len, Pk.beN_length, c1]
      omega
  unfold layD
  rw [List.length_append, List.length_append, List.length_append, Pk.beN_length, Pk.beN_length, Pk.beN_length]
  omega
/-- A result's document is stored in a new variable. -/
theorem store_var {w : World} {D : Dc} {z : Sl} : ∃ b, w.heap.size = b ∧ Box (Pk.Blk (w.alloc (.cells #[.int .i64 0, .int .i64 0, .int .i64 0, .slice none 0 0, .int .i64 0, .slice none 0 0, .int .i64 0, .slice none 0 0, .int .i64 0, .slice none 0 0, .int .i64 0, .slice none 0 0, .int .i64 0, .string ⟨#[]⟩, .string ⟨#[]⟩, .slice none 0 0, .string ⟨#[]⟩, .int .i64 0, .string ⟨#[]⟩, .int .i64 0, .string ⟨#[]⟩] 30)) b (docL dc0 zz0) 30) ∧ Box (∀ W, (w.alloc (.cells #[.int .i64 0, .int .i64 0, .int .i64 0, .slice none 0 0, .int .i64 0, .slice none 0 0, .int .i64 0, .slice none 0 0, .int .i64 0, .slice none 0 0, .int .i64 0, .slice none 0 0, .int .i64 0, .string ⟨#[]⟩, .string ⟨#[]⟩, .slice none 0 0, .string ⟨#[]⟩, .int .i64 0, .string ⟨#[]⟩, .int .i64 0, .string ⟨#[]⟩] 30)).setCells b 0 (docL D z) = W → Below w.heap.size w W ∧ Pk.Blk W b (docL D z) 30) :=
  ⟨_, rfl, ⟨Pk.Blk.new w (docL dc0 zz0) _⟩, ⟨fun W h => store_new h⟩⟩
set_option maxHeartbeats 3200000 in
set_option maxRecDepth 100000 in
theorem law_back (d : Dc) (z : Sl) (cut : Int) (B : Nat) (w : World) (hL : NL B w) (hB : B ≤ w.heap.size) (hv : DcAt w z d) (ho : DcOk d) (hc0 : 0 ≤ cut) (hc1 : cut ≤ 65535) :
    Calls Tryz.prog 4 #[docV d z, .int .u16 cut] w fun e w' => e = .returned (.bool true) ∧ Below w.heap.size w w' := by
  obtain ⟨W1, hW1, hB1, hS1⟩ := doc_new w d z 30
  obtain ⟨b, hb⟩ : ∃ b, w.heap.size = b := ⟨_, rfl⟩
  rw [hb] at hS1
  replace hS1 := Box.mk hS1
  have hLB := Box.mk fun (w' : World) (hb : Below w.heap.size w w') => (⟨hL.here hB hb, by have := hb.size; omega⟩ : NL B w' ∧ B ≤ w'.heap.size)
  have hvB := Box.mk hv
  have hoB := Box.mk ho
  obtain ⟨hl1, hl2⟩ := hLB.out W1 hB1.out
  have hq := seals_any B W1 hl1 hl2
  clear hL hB hv ho hl1 hl2
  show Calls _ _ #[.agg (docL _ z).toArray, .int .u16 cut] w _
  go_enter Tryz.func4, Tryz.ntmps4
  go_wp2_with fail
  refine hq.mono ?_
  clear hq
  rintro r w2 ⟨rfl, hbe⟩
  have hB2 := Box.mk (mono_bel hB1.out hbe (Nat.le_refl _))
  have hS2 := doc_here hS1 hbe
  clear hbe hB1 hS1
  obtain ⟨hl1, hl2⟩ := hLB.out w2 hB2.out
  have hq := encode_any d z B w2 hl1 hl2 (hvB.out.here hB2.out) hoB.out
  clear hl1 hl2
  rcases (Bool.eq_false_or_eq_true (chkD d)).symm with hc | hc
  · have eR : encR d = .tuple #[.string ⟨#[]⟩, .int .i64 1] := by unfold encR encV; rw [hc]; rfl
    rw [eR] at hq
    have hck : chkDE d = 1 := by unfold chkDE; rw [hc]; rfl
    have hck := Box.mk hck
    clear eR hc
    go_wp2_with (refine wpList_loadG (by rfl) 30 (.tmp 2) rfl b 0 rfl (docL d z) _ (blk_range hS2.out) Tryz.underlying30 rfl (doc_size _ _) ?_)
    refine hq.mono ?_
    clear hq
    rintro r w3 ⟨rfl, hbe⟩
    have hB3 := Box.mk (mono_bel hB2.out hbe (Nat.le_refl _))
    have hS3 := doc_here hS2 hbe
    clear hbe hB2 hS2
    obtain ⟨hl1, hl2⟩ := hLB.out w3 hB3.out
    have hq := mcheck_any d z B w3 hl1 hl2 (hvB.out.here hB3.out) hoB.out
    rw [hck.out] at hq
    clear hl1 hl2
    go_wp2_with (refine wpList_loadG (by rfl) 30 (.tmp 2) rfl b 0 rfl (docL d z) _ (blk_range hS3.out) Tryz.underlying30 rfl (doc_size _ _) ?_)
    refine hq.mono ?_
    clear hq
    rintro r w4 ⟨rfl, hbe⟩
    have hB4 := Box.mk (mono_bel hB3.out hbe (Nat.le_refl _))
    clear hbe
    go_wp2_with fail
    go_ret
    exact ⟨by first | rfl | simp, hB4.out⟩
  have eR : encR d = .tuple #[.string (Pk.btx (layD d)), .int .i64 0] := by unfold encR encV; rw [hc]; rfl
  rw [eR] at hq
  have hpos := layD_pos d
  have hmax := layD_len hc
  obtain ⟨sx, hsx⟩ : ∃ s, Pk.btx (layD d) = s := ⟨_, rfl⟩
  have hdl : sx.data.toList = layD d := by rw [← hsx, Pk.mk_list]
  have hsz : sx.size = (layD d).length := by rw [← hsx, Pk.mk_size]
  obtain ⟨L, hL⟩ : ∃ L, sx.size = L := ⟨_, rfl⟩
  obtain ⟨n, hn⟩ : ∃ n, cut.toNat % L = n := ⟨_, rfl⟩
  have hLp : 11 ≤ L := by omega
  have hLm : L ≤ 5000 := by omega
  have hnL : n < L := by rw [← hn]; exact Nat.mod_lt _ (by omega)
  have e1 : decM sx.data.toList = (d, 0) := by rw [hdl]; exact dec_back hc
  have e2 : decM (sx.extract 0 n).data.toList = (dc0, 3) := by
    have hx : (sx.extract 0 n).data.toList = (layD d).take n := by rw [← hdl]; simp
    rw [hx]
    exact dec_cut hc (List.take_append_drop n (layD d)).symm (by intro e; have := congrArg List.length e; rw [List.length_drop] at this; simp at this; omega)
  have e3 : decM (sx ++ ⟨#[0]⟩).data.toList = (dc0, 3) := by
    have hx : (sx ++ (⟨#[0]⟩ : ByteArray)).data.toList = layD d ++ [0] := by rw [← hdl]; simp [ByteArray.data_append]
    rw [hx]; exact dec_more hc (by simp)
  have q1 := Box.mk fun (w' : World) (h : Below w.heap.size w w') => decode_any sx B w' (hLB.out w' h).1 (hLB.out w' h).2
  have q2 := Box.mk fun (w' : World) (h : Below w.heap.size w w') => decode_any (sx.extract 0 n) B w' (hLB.out w' h).1 (hLB.out w' h).2
  have q3 := Box.mk fun (w' : World) (h : Below w.heap.size w w') => decode_any (sx ++ ⟨#[0]⟩) B w' (hLB.out w' h).1 (hLB.out w' h).2
  unfold DecS at q1 q2 q3
  rw [e1] at q1
  rw [e2] at q2
  rw [e3] at q3
  dsimp only at q1 q2 q3
  rw [hsx] at hq
  have hsum : sx.size + (⟨#[0]⟩ : ByteArray).size ≤ 9223372036854775807 := by rw [hL]; show L + 1 ≤ _; omega
  have hcat := Box.mk fun (w' : World) => run_string_add_sum (P := Tryz.prog) (w := w') sx ⟨#[0]⟩ hsum
  clear eR hc hsx hdl hsz e1 e2 e3 hpos hmax hsum
  have hLi : ((L : Nat) : Int) ≠ 0 := by omega
  have hrem : Int.tmod cut (L : Int) = (n : Int) := by rw [← hn, Int.tmod_eq_emod_of_nonneg hc0, Int.natCast_emod, Int.toNat_of_nonneg hc0]
  go_wp2_with (refine wpList_loadG (by rfl) 30 (.tmp 2) rfl b 0 rfl (docL d z) _ (blk_range hS2.out) Tryz.underlying30 rfl (doc_size _ _) ?_)
  refine hq.mono ?_
  clear hq
  rintro r w3 ⟨rfl, hbe⟩
  have hB3 := Box.mk (mono_bel hB2.out hbe (Nat.le_refl _))
  have hS3 := doc_here hS2 hbe
  clear hbe hB2 hS2
  have hq := q1.out w3 hB3.out
  clear q1
  go_wp2_with fail
  refine hq.mono ?_
  clear hq
  rintro r w4 ⟨⟨za, rfl, hra⟩, hbe⟩
  have hB4 := Box.mk (mono_bel hB3.out hbe (Nat.le_refl _))
  have hS4 := doc_here hS3 hbe
  have hra := Box.mk hra
  clear hbe hB3 hS3
  obtain ⟨b7, hb7, hZ7, hT7⟩ := @store_var w4 d za
  have q2' := Box.mk fun (w' : World) (h : Below w4.heap.size w4 w') => q2.out w' (mono_bel hB4.out h (Nat.le_refl _))
  clear q2
  go_wp2_with (refine wpList_store_doc rfl (.tmp 7) (.tmp 32) rfl b7 d za (by first | rfl | (rw [← hb7]; rfl)) rfl hZ7.out rfl ?_; intro w5 hw5; have hM := Box.mk (hT7.out w5 hw5); clear hw5 hT7 hZ7)
  have hB5 := Box.mk (mono_bel hB4.out hM.out.1 (Nat.le_refl _))
  have hS5 := Box.mk (blk_here hS4.out hM.out.1)
  have hra5 := Box.mk (hra.out.below hM.out.1)
  have hq := q2'.out w5 hM.out.1
  have hM7 := Box.mk hM.out.2
  clear q2' hB4 hS4 hra hM hb7
  refine hq.mono ?_
  clear hq
  rintro r w6 ⟨⟨zb, rfl, -⟩, hbe⟩
  have hB6 := Box.mk (mono_bel hB5.out hbe (Nat.le_refl _))
  have hS6 := Box.mk (blk_here hS5.out hbe)
  have hra6 := Box.mk (hra5.out.below hbe)
  have hM7b := Box.mk (blk_here hM7.out hbe)
  clear hbe hB5 hS5 hra5 hM7
  obtain ⟨b9, hb9, hZ9, hT9⟩ := @store_var w6 dc0 zb
  have q3' := Box.mk fun (w' : World) (h : Below w6.heap.size w6 w') => q3.out w' (mono_bel hB6.out h (Nat.le_refl _))
  clear q3
  go_wp2_with (refine wpList_store_doc rfl (.tmp 9) (.tmp 43) rfl b9 dc0 zb (by first | rfl | (rw [← hb9]; rfl)) rfl hZ9.out rfl ?_; intro w7 hw7; have hM := Box.mk (hT9.out w7 hw7); clear hw7 hT9 hZ9)
  have hq := q3'.out w7 hM.out.1
  have hcat7 := hcat.out w7
  have hB7 := Box.mk (mono_bel hB6.out hM.out.1 (Nat.le_refl _))
  have hS7 := Box.mk (blk_here hS6.out hM.out.1)
  have hra7 := Box.mk (hra6.out.below hM.out.1)
  have hM7c := Box.mk (blk_here hM7b.out hM.out.1)
  clear q3' hB6 hS6 hra6 hM7b hM hb9
  refine hq.mono ?_
  clear hq
  rintro r w8 ⟨⟨zc, rfl, -⟩, hbe⟩
  have hB8 := Box.mk (mono_bel hB7.out hbe (Nat.le_refl _))
  have hS8 := Box.mk (blk_here hS7.out hbe)
  have hra8 := Box.mk (hra7.out.below hbe)
  have hM8 := Box.mk (blk_here hM7c.out hbe)
  clear hbe hB7 hS7 hra7 hM7c
  obtain ⟨b11, hb11, hZ11, hT11⟩ := @store_var w8 dc0 zc
  go_wp2_with (first
    | (refine wpList_store_doc rfl (.tmp 11) (.tmp 49) rfl b11 dc0 zc (by first | rfl | (rw [← hb11]; rfl)) rfl hZ11.out rfl ?_; intro w9 hw9; have hM := Box.mk (hT11.out w9 hw9); clear hw9 hT11 hZ11)
    | (refine wpList_loadG (by rfl) 30 (.tmp 7) rfl b7 0 rfl (docL d za) _ (blk_range (blk_here hM8.out hM.out.1)) Tryz.underlying30 rfl (doc_size _ _) ?_)
    | (refine wpList_loadG (by rfl) 30 (.tmp 2) rfl b 0 rfl (docL d z) _ (blk_range (blk_here hS8.out hM.out.1)) Tryz.underlying30 rfl (doc_size _ _) ?_))
  have hB9 := Box.mk (mono_bel hB8.out hM.out.1 (Nat.le_refl _))
  have hq := same_doc d za z w9 (hra8.out.below hM.out.1).at_ (hvB.out.here hB9.out) hoB.out
  refine hq.mono ?_
  clear hq
  rintro r w10 ⟨rfl, hbe⟩
  have hB10 := Box.mk (mono_bel hB9.out hbe (Nat.le_refl _))
  clear hbe
  go_wp2_with fail
  go_ret
  exact ⟨by first | rfl | simp, hB10.out⟩
end Go.Proofs.YtiblkfkeifnpaaaGreatDoor.Me
