/- meta: a document's fields, Check of the program. -/
import Derived.Deep.MidRow
import Derived.Test.YthkfefkcjcgfkaaGreatDoorWmc
set_option linter.all false
namespace Go.Proofs.YthkfefkcjcgfkaaGreatDoor.Me
open Go Go.RowKit Go.Proofs.YthkfefkcjcgfkaaGreatDoor Go.Proofs.YthkfefkcjcgfkaaGreatDoor.Nt
theorem blk_here {w w' : World} {b : Nat} {cs : List Value} {t : TypeId} (h : Pk.Blk w b cs t) (hb : Below w.heap.size w w') : Pk.Blk w' b cs t := (hb.block b h.lt).trans h
theorem doc_here {w w' : World} {b : Nat} {d : Dc} {z : Sl} {t : TypeId} (h : Box (Pk.Blk w b (docL d z) t)) (hb : Below w.heap.size w w') : Box (Pk.Blk w' b (docL d z) t) := ⟨blk_here h.out hb⟩
theorem wpList_loadG {P : Program} {ops : Array Oper} {rest : List Oper} {op : Oper} {a : Act} {w : World} {Q : Exit → Act → World → Prop} (hw : Region.wanted op (yielded ops a.tmps) = true) (ty : TypeId) (x : Operand) (ho : op.op = .load ty x)
    (b o : Nat) (hx : a.eval x = .pointer (some ⟨b, o, none⟩)) (cs : List Value) (d : TypeDesc) (hc : w.rangeAt b o cs)
    (hu : P.underlying ty = some d) (hd : d.isRow = true) (hi : (P.info? ty).map (·.size) = some cs.length)
    (h : wpList P ops Q rest (a.put op.dst (.agg cs.toArray)) w) : wpList P ops Q (op :: rest) a w :=
  wpList_step fun K hK => by rw [if_pos hw]; exact wp_load_mid ty x ho b o hx cs d hc hu hd hi (hK _ _ h)
theorem blk_range {w : World} {b : Nat} {cs : List Value} {t : TypeId} (h : Pk.Blk w b cs t) : w.rangeAt b 0 cs := fun j v hv => by
  rw [Nat.zero_add, h.cell j]; exact hv
theorem size21 : (Tryz.prog.info? 46).map (·.size) = some 21 := by kernel_rfl
theorem doc_size (d : Dc) (z : Sl) : (Tryz.prog.info? 46).map (·.size) = some (docL d z).length := size21
set_option maxHeartbeats 3200000 in
set_option maxRecDepth 100000 in
theorem fields_1 (d : Dc) (z : Sl) (B : Nat) (w : World) (hL : NL B w) (hB : B ≤ w.heap.size) (hv : DcAt w z d) (ho : DcOk d) (hk : d.k = 1) :
    Calls Tryz.prog 75 #[docV d z] w fun e w' => e = .returned (.bool (fldB d.k d.f)) ∧ Below w.heap.size w w' := by
  obtain ⟨k, v, x, f⟩ := d
  dsimp only at hk
  subst hk
  obtain ⟨W1, hW1, hB1, hS1⟩ := doc_new w ⟨1, v, x, f⟩ z 46
  replace hS1 := Box.mk hS1
  have q0 := fun w' (hb : Below w.heap.size w w') => goodrules_any ⟨1, v, x, f⟩ z B w' (hL.here hB hb) (by have := hb.size; omega) (hv.here hb) ho
  have q1 := fun w' (hb : Below w.heap.size w w') => nolist_any ⟨1, v, x, f⟩ z w'
  have q2 := fun w' (hb : Below w.heap.size w w') => nopoint_any ⟨1, v, x, f⟩ z w'
  have q3 := fun w' (hb : Below w.heap.size w w') => nolink_any ⟨1, v, x, f⟩ z w'
  obtain ⟨b0, hb0⟩ : ∃ b, ruB f = b := ⟨_, rfl⟩
  obtain ⟨b1, hb1⟩ : ∃ b, noLs f = b := ⟨_, rfl⟩
  obtain ⟨b2, hb2⟩ : ∃ b, noPt f = b := ⟨_, rfl⟩
  obtain ⟨b3, hb3⟩ : ∃ b, noLk f = b := ⟨_, rfl⟩
  have eR : fldB 1 f = (b0 && (b1 && (b2 && b3))) := by unfold fldB; rw [if_pos rfl, hb0, hb1, hb2, hb3]
  dsimp only
  rw [eR]
  rw [hb0] at q0
  rw [hb1] at q1
  rw [hb2] at q2
  rw [hb3] at q3
  clear hb0 hb1 hb2 hb3 hL hB hv ho eR
  show Calls _ _ #[.agg (docL _ z).toArray] w _
  go_enter Tryz.func75, Tryz.ntmps75
  obtain ⟨s0, s1, s2, s3, s4, s5, s6, s7, s8, s9, s10, s11, s12, s13, s14, s15, s16, s17, s18, s19, s20⟩ := doc_cells hS1.out
  cases b0 with
  | true =>
    go_wp2_with (refine wpList_loadG (by rfl) 46 (.tmp 1) rfl w.heap.size 0 rfl (docL ⟨1, v, x, f⟩ z) _ (blk_range hS1.out) Tryz.underlying46 rfl (doc_size _ _) ?_)
    refine (q0 _ (by first | exact hB1.out | exact (hB1.out))).mono ?_
    clear q0
    rintro e v1 ⟨rfl, hb⟩
    have hB2 := Box.mk (mono_bel hB1.out hb (Nat.le_refl _))
    have hS2 := doc_here hS1 hb
    clear hb hB1 hS1 s0 s1 s2 s3 s4 s5 s6 s7 s8 s9 s10 s11 s12 s13 s14 s15 s16 s17 s18 s19 s20
    obtain ⟨s0, s1, s2, s3, s4, s5, s6, s7, s8, s9, s10, s11, s12, s13, s14, s15, s16, s17, s18, s19, s20⟩ := doc_cells hS2.out
    cases b1 with
    | true =>
      go_wp2_with (refine wpList_loadG (by rfl) 46 (.tmp 1) rfl w.heap.size 0 rfl (docL ⟨1, v, x, f⟩ z) _ (blk_range hS2.out) Tryz.underlying46 rfl (doc_size _ _) ?_)
      refine (q1 _ (by first | exact hB2.out | exact (hB2.out))).mono ?_
      clear q1
      rintro e v2 ⟨rfl, hb⟩
      have hB3 := Box.mk (mono_bel hB2.out hb (Nat.le_refl _))
      have hS3 := doc_here hS2 hb
      clear hb hB2 hS2 s0 s1 s2 s3 s4 s5 s6 s7 s8 s9 s10 s11 s12 s13 s14 s15 s16 s17 s18 s19 s20
      obtain ⟨s0, s1, s2, s3, s4, s5, s6, s7, s8, s9, s10, s11, s12, s13, s14, s15, s16, s17, s18, s19, s20⟩ := doc_cells hS3.out
      cases b2 with
      | true =>
        go_wp2_with (refine wpList_loadG (by rfl) 46 (.tmp 1) rfl w.heap.size 0 rfl (docL ⟨1, v, x, f⟩ z) _ (blk_range hS3.out) Tryz.underlying46 rfl (doc_size _ _) ?_)
        refine (q2 _ (by first | exact hB3.out | exact (hB3.out))).mono ?_
        clear q2
        rintro e v3 ⟨rfl, hb⟩
        have hB4 := Box.mk (mono_bel hB3.out hb (Nat.le_refl _))
        have hS4 := doc_here hS3 hb
        clear hb hB3 hS3 s0 s1 s2 s3 s4 s5 s6 s7 s8 s9 s10 s11 s12 s13 s14 s15 s16 s17 s18 s19 s20
        obtain ⟨s0, s1, s2, s3, s4, s5, s6, s7, s8, s9, s10, s11, s12, s13, s14, s15, s16, s17, s18, s19, s20⟩ := doc_cells hS4.out
        cases b3 with
        | true =>
          go_wp2_with (refine wpList_loadG (by rfl) 46 (.tmp 1) rfl w.heap.size 0 rfl (docL ⟨1, v, x, f⟩ z) _ (blk_range hS4.out) Tryz.underlying46 rfl (doc_size _ _) ?_)
          refine (q3 _ (by first | exact hB4.out | exact (hB4.out))).mono ?_
          clear q3
          rintro e v4 ⟨rfl, hb⟩
          have hB5 := Box.mk (mono_bel hB4.out hb (Nat.le_refl _))
          clear hb
          go_wp2_with fail
          go_ret
          exact ⟨by simp, hB5.out⟩
        | false =>
          go_wp2_with (refine wpList_loadG (by rfl) 46 (.tmp 1) rfl w.heap.size 0 rfl (docL ⟨1, v, x, f⟩ z) _ (blk_range hS4.out) Tryz.underlying46 rfl (doc_size _ _) ?_)
          refine (q3 _ (by first | exact hB4.out | exact (hB4.out))).mono ?_
          clear q3
          rintro e v4 ⟨rfl, hb⟩
          have hB5 := Box.mk (mono_bel hB4.out hb (Nat.le_refl _))
          clear hb
          go_wp2_with fail
          go_ret
          exact ⟨by simp, hB5.out⟩
      | false =>
        go_wp2_with (refine wpList_loadG (by rfl) 46 (.tmp 1) rfl w.heap.size 0 rfl (docL ⟨1, v, x, f⟩ z) _ (blk_range hS3.out) Tryz.underlying46 rfl (doc_size _ _) ?_)
        refine (q2 _ (by first | exact hB3.out | exact (hB3.out))).mono ?_
        clear q2
        rintro e v3 ⟨rfl, hb⟩
        have hB4 := Box.mk (mono_bel hB3.out hb (Nat.le_refl _))
        clear hb
        go_wp2_with fail
        go_ret
        exact ⟨by simp, hB4.out⟩
    | false =>
      go_wp2_with (refine wpList_loadG (by rfl) 46 (.tmp 1) rfl w.heap.size 0 rfl (docL ⟨1, v, x, f⟩ z) _ (blk_range hS2.out) Tryz.underlying46 rfl (doc_size _ _) ?_)
      refine (q1 _ (by first | exact hB2.out | exact (hB2.out))).mono ?_
      clear q1
      rintro e v2 ⟨rfl, hb⟩
      have hB3 := Box.mk (mono_bel hB2.out hb (Nat.le_refl _))
      clear hb
      go_wp2_with fail
      go_ret
      exact ⟨by simp, hB3.out⟩
  | false =>
    go_wp2_with (refine wpList_loadG (by rfl) 46 (.tmp 1) rfl w.heap.size 0 rfl (docL ⟨1, v, x, f⟩ z) _ (blk_range hS1.out) Tryz.underlying46 rfl (doc_size _ _) ?_)
    refine (q0 _ (by first | exact hB1.out | exact (hB1.out))).mono ?_
    clear q0
    rintro e v1 ⟨rfl, hb⟩
    have hB2 := Box.mk (mono_bel hB1.out hb (Nat.le_refl _))
    clear hb
    go_wp2_with fail
    go_ret
    exact ⟨by simp, hB2.out⟩
set_option maxHeartbeats 3200000 in
set_option maxRecDepth 100000 in
theorem fields_2 (d : Dc) (z : Sl) (B : Nat) (w : World) (hL : NL B w) (hB : B ≤ w.heap.size) (hv : DcAt w z d) (ho : DcOk d) (hk : d.k = 2) :
    Calls Tryz.prog 75 #[docV d z] w fun e w' => e = .returned (.bool (fldB d.k d.f)) ∧ Below w.heap.size w w' := by
  obtain ⟨k, v, x, f⟩ := d
  dsimp only at hk
  subst hk
  obtain ⟨W1, hW1, hB1, hS1⟩ := doc_new w ⟨2, v, x, f⟩ z 46
  replace hS1 := Box.mk hS1
  have q0 := fun w' (hb : Below w.heap.size w w') => norules_any ⟨2, v, x, f⟩ z w'
  have q1 := fun w' (hb : Below w.heap.size w w') => goodlist_any z.al.1 z.al.2 f.ls w' (hv.here hb).pl ho.ll
  have q2 := fun w' (hb : Below w.heap.size w w') => nopoint_any ⟨2, v, x, f⟩ z w'
  have q3 := fun w' (hb : Below w.heap.size w w') => nolink_any ⟨2, v, x, f⟩ z w'
  obtain ⟨b0, hb0⟩ : ∃ b, noRu f = b := ⟨_, rfl⟩
  obtain ⟨b1, hb1⟩ : ∃ b, listB f.ls = b := ⟨_, rfl⟩
  obtain ⟨b2, hb2⟩ : ∃ b, noPt f = b := ⟨_, rfl⟩
  obtain ⟨b3, hb3⟩ : ∃ b, noLk f = b := ⟨_, rfl⟩
  have eR : fldB 2 f = (b0 && (b1 && (b2 && b3))) := by unfold fldB; rw [if_neg (by decide), if_pos rfl, hb0, hb1, hb2, hb3]
  dsimp only
  rw [eR]
  rw [hb0] at q0
  rw [hb1] at q1
  rw [hb2] at q2
  rw [hb3] at q3
  clear hb0 hb1 hb2 hb3 hL hB hv ho eR
  show Calls _ _ #[.agg (docL _ z).toArray] w _
  go_enter Tryz.func75, Tryz.ntmps75
  obtain ⟨s0, s1, s2, s3, s4, s5, s6, s7, s8, s9, s10, s11, s12, s13, s14, s15, s16, s17, s18, s19, s20⟩ := doc_cells hS1.out
  cases b0 with
  | true =>
    go_wp2_with (refine wpList_loadG (by rfl) 46 (.tmp 1) rfl w.heap.size 0 rfl (docL ⟨2, v, x, f⟩ z) _ (blk_range hS1.out) Tryz.underlying46 rfl (doc_size _ _) ?_)
    refine (q0 _ (by first | exact hB1.out | exact (hB1.out))).mono ?_
    clear q0
    rintro e v1 ⟨rfl, hb⟩
    have hB2 := Box.mk (mono_bel hB1.out hb (Nat.le_refl _))
    have hS2 := doc_here hS1 hb
    clear hb hB1 hS1 s0 s1 s2 s3 s4 s5 s6 s7 s8 s9 s10 s11 s12 s13 s14 s15 s16 s17 s18 s19 s20
    obtain ⟨s0, s1, s2, s3, s4, s5, s6, s7, s8, s9, s10, s11, s12, s13, s14, s15, s16, s17, s18, s19, s20⟩ := doc_cells hS2.out
    cases b1 with
    | true =>
      go_wp2_with (refine wpList_loadG (by rfl) 46 (.tmp 1) rfl w.heap.size 0 rfl (docL ⟨2, v, x, f⟩ z) _ (blk_range hS2.out) Tryz.underlying46 rfl (doc_size _ _) ?_)
      refine (q1 _ (by first | exact hB2.out | exact (hB2.out))).mono ?_
      clear q1
      rintro e v2 ⟨rfl, hb⟩
      have hB3 := Box.mk (mono_bel hB2.out hb (Nat.le_refl _))
      have hS3 := doc_here hS2 hb
      clear hb hB2 hS2 s0 s1 s2 s3 s4 s5 s6 s7 s8 s9 s10 s11 s12 s13 s14 s15 s16 s17 s18 s19 s20
      obtain ⟨s0, s1, s2, s3, s4, s5, s6, s7, s8, s9, s10, s11, s12, s13, s14, s15, s16, s17, s18, s19, s20⟩ := doc_cells hS3.out
      cases b2 with
      | true =>
        go_wp2_with (refine wpList_loadG (by rfl) 46 (.tmp 1) rfl w.heap.size 0 rfl (docL ⟨2, v, x, f⟩ z) _ (blk_range hS3.out) Tryz.underlying46 rfl (doc_size _ _) ?_)
        refine (q2 _ (by first | exact hB3.out | exact (hB3.out))).mono ?_
        clear q2
        rintro e v3 ⟨rfl, hb⟩
        have hB4 := Box.mk (mono_bel hB3.out hb (Nat.le_refl _))
        have hS4 := doc_here hS3 hb
        clear hb hB3 hS3 s0 s1 s2 s3 s4 s5 s6 s7 s8 s9 s10 s11 s12 s13 s14 s15 s16 s17 s18 s19 s20
        obtain ⟨s0, s1, s2, s3, s4, s5, s6, s7, s8, s9, s10, s11, s12, s13, s14, s15, s16, s17, s18, s19, s20⟩ := doc_cells hS4.out
        cases b3 with
        | true =>
          go_wp2_with (refine wpList_loadG (by rfl) 46 (.tmp 1) rfl w.heap.size 0 rfl (docL ⟨2, v, x, f⟩ z) _ (blk_range hS4.out) Tryz.underlying46 rfl (doc_size _ _) ?_)
          refine (q3 _ (by first | exact hB4.out | exact (hB4.out))).mono ?_
          clear q3
          rintro e v4 ⟨rfl, hb⟩
          have hB5 := Box.mk (mono_bel hB4.out hb (Nat.le_refl _))
          clear hb
          go_wp2_with fail
          go_ret
          exact ⟨by simp, hB5.out⟩
        | false =>
          go_wp2_with (refine wpList_loadG (by rfl) 46 (.tmp 1) rfl w.heap.size 0 rfl (docL ⟨2, v, x, f⟩ z) _ (blk_range hS4.out) Tryz.underlying46 rfl (doc_size _ _) ?_)
          refine (q3 _ (by first | exact hB4.out | exact (hB4.out))).mono ?_
          clear q3
          rintro e v4 ⟨rfl, hb⟩
          have hB5 := Box.mk (mono_bel hB4.out hb (Nat.le_refl _))
          clear hb
          go_wp2_with fail
          go_ret
          exact ⟨by simp, hB5.out⟩
      | false =>
        go_wp2_with (refine wpList_loadG (by rfl) 46 (.tmp 1) rfl w.heap.size 0 rfl (docL ⟨2, v, x, f⟩ z) _ (blk_range hS3.out) Tryz.underlying46 rfl (doc_size _ _) ?_)
        refine (q2 _ (by first | exact hB3.out | exact (hB3.out))).mono ?_
        clear q2
        rintro e v3 ⟨rfl, hb⟩
        have hB4 := Box.mk (mono_bel hB3.out hb (Nat.le_refl _))
        clear hb
        go_wp2_with fail
        go_ret
        exact ⟨by simp, hB4.out⟩
    | false =>
      go_wp2_with (refine wpList_loadG (by rfl) 46 (.tmp 1) rfl w.heap.size 0 rfl (docL ⟨2, v, x, f⟩ z) _ (blk_range hS2.out) Tryz.underlying46 rfl (doc_size _ _) ?_)
      refine (q1 _ (by first | exact hB2.out | exact (hB2.out))).mono ?_
      clear q1
      rintro e v2 ⟨rfl, hb⟩
      have hB3 := Box.mk (mono_bel hB2.out hb (Nat.le_refl _))
      clear hb
      go_wp2_with fail
      go_ret
      exact ⟨by simp, hB3.out⟩
  | false =>
    go_wp2_with (refine wpList_loadG (by rfl) 46 (.tmp 1) rfl w.heap.size 0 rfl (docL ⟨2, v, x, f⟩ z) _ (blk_range hS1.out) Tryz.underlying46 rfl (doc_size _ _) ?_)
    refine (q0 _ (by first | exact hB1.out | exact (hB1.out))).mono ?_
    clear q0
    rintro e v1 ⟨rfl, hb⟩
    have hB2 := Box.mk (mono_bel hB1.out hb (Nat.le_refl _))
    clear hb
    go_wp2_with fail
    go_ret
    exact ⟨by simp, hB2.out⟩
set_option maxHeartbeats 3200000 in
set_option maxRecDepth 100000 in
theorem fields_3 (d : Dc) (z : Sl) (B : Nat) (w : World) (hL : NL B w) (hB : B ≤ w.heap.size) (hv : DcAt w z d) (ho : DcOk d) (hk : d.k = 3) :
    Calls Tryz.prog 75 #[docV d z] w fun e w' => e = .returned (.bool (fldB d.k d.f)) ∧ Below w.heap.size w w' := by
  obtain ⟨k, v, x, f⟩ := d
  dsimp only at hk
  subst hk
  obtain ⟨W1, hW1, hB1, hS1⟩ := doc_new w ⟨3, v, x, f⟩ z 46
  replace hS1 := Box.mk hS1
  have q0 := fun w' (hb : Below w.heap.size w w') => norules_any ⟨3, v, x, f⟩ z w'
  have q1 := fun w' (hb : Below w.heap.size w w') => nolist_any ⟨3, v, x, f⟩ z w'
  have q2 := fun w' (hb : Below w.heap.size w w') => gpoint_any f.pt B w' (hL.here hB hb) (by have := hb.size; omega) ho.po ho.pr
  have q3 := fun w' (hb : Below w.heap.size w w') => glink_any ⟨3, v, x, f⟩ z w'
  obtain ⟨b0, hb0⟩ : ∃ b, noRu f = b := ⟨_, rfl⟩
  obtain ⟨b1, hb1⟩ : ∃ b, noLs f = b := ⟨_, rfl⟩
  obtain ⟨b2, hb2⟩ : ∃ b, gC f.pt = b := ⟨_, rfl⟩
  obtain ⟨b3, hb3⟩ : ∃ b, lkB f = b := ⟨_, rfl⟩
  have eR : fldB 3 f = (b0 && (b1 && (b2 && b3))) := by unfold fldB; rw [if_neg (by decide), if_neg (by decide), if_pos rfl, hb0, hb1, hb2, hb3]
  dsimp only
  rw [eR]
  rw [hb0] at q0
  rw [hb1] at q1
  rw [hb2] at q2
  rw [hb3] at q3
  clear hb0 hb1 hb2 hb3 hL hB hv ho eR
  show Calls _ _ #[.agg (docL _ z).toArray] w _
  unfold ckV at q2
  go_enter Tryz.func75, Tryz.ntmps75
  obtain ⟨s0, s1, s2, s3, s4, s5, s6, s7, s8, s9, s10, s11, s12, s13, s14, s15, s16, s17, s18, s19, s20⟩ := doc_cells hS1.out
  cases b0 with
  | true =>
    go_wp2_with (refine wpList_loadG (by rfl) 46 (.tmp 1) rfl w.heap.size 0 rfl (docL ⟨3, v, x, f⟩ z) _ (blk_range hS1.out) Tryz.underlying46 rfl (doc_size _ _) ?_)
    refine (q0 _ (by first | exact hB1.out | exact (hB1.out))).mono ?_
    clear q0
    rintro e v1 ⟨rfl, hb⟩
    have hB2 := Box.mk (mono_bel hB1.out hb (Nat.le_refl _))
    have hS2 := doc_here hS1 hb
    clear hb hB1 hS1 s0 s1 s2 s3 s4 s5 s6 s7 s8 s9 s10 s11 s12 s13 s14 s15 s16 s17 s18 s19 s20
    obtain ⟨s0, s1, s2, s3, s4, s5, s6, s7, s8, s9, s10, s11, s12, s13, s14, s15, s16, s17, s18, s19, s20⟩ := doc_cells hS2.out
    cases b1 with
    | true =>
      go_wp2_with (refine wpList_loadG (by rfl) 46 (.tmp 1) rfl w.heap.size 0 rfl (docL ⟨3, v, x, f⟩ z) _ (blk_range hS2.out) Tryz.underlying46 rfl (doc_size _ _) ?_)
      refine (q1 _ (by first | exact hB2.out | exact (hB2.out))).mono ?_
      clear q1
      rintro e v2 ⟨rfl, hb⟩
      have hB3 := Box.mk (mono_bel hB2.out hb (Nat.le_refl _))
      have hS3 := doc_here hS2 hb
      clear hb hB2 hS2 s0 s1 s2 s3 s4 s5 s6 s7 s8 s9 s10 s11 s12 s13 s14 s15 s16 s17 s18 s19 s20
      obtain ⟨s0, s1, s2, s3, s4, s5, s6, s7, s8, s9, s10, s11, s12, s13, s14, s15, s16, s17, s18, s19, s20⟩ := doc_cells hS3.out
      cases b2 with
      | true =>
        go_wp2_with (refine wpList_loadG (by rfl) 46 (.tmp 1) rfl w.heap.size 0 rfl (docL ⟨3, v, x, f⟩ z) _ (blk_range hS3.out) Tryz.underlying46 rfl (doc_size _ _) ?_)
        refine (q2 _ (by first | exact hB3.out | exact (hB3.out))).mono ?_
        clear q2
        rintro e v3 ⟨rfl, hb⟩
        have hB4 := Box.mk (mono_bel hB3.out hb (Nat.le_refl _))
        have hS4 := doc_here hS3 hb
        clear hb hB3 hS3 s0 s1 s2 s3 s4 s5 s6 s7 s8 s9 s10 s11 s12 s13 s14 s15 s16 s17 s18 s19 s20
        obtain ⟨s0, s1, s2, s3, s4, s5, s6, s7, s8, s9, s10, s11, s12, s13, s14, s15, s16, s17, s18, s19, s20⟩ := doc_cells hS4.out
        cases b3 with
        | true =>
          go_wp2_with (refine wpList_loadG (by rfl) 46 (.tmp 1) rfl w.heap.size 0 rfl (docL ⟨3, v, x, f⟩ z) _ (blk_range hS4.out) Tryz.underlying46 rfl (doc_size _ _) ?_)
          refine (q3 _ (by first | exact hB4.out | exact (hB4.out))).mono ?_
          clear q3
          rintro e v4 ⟨rfl, hb⟩
          have hB5 := Box.mk (mono_bel hB4.out hb (Nat.le_refl _))
          clear hb
          go_wp2_with fail
          go_ret
          exact ⟨by simp, hB5.out⟩
        | false =>
          go_wp2_with (refine wpList_loadG (by rfl) 46 (.tmp 1) rfl w.heap.size 0 rfl (docL ⟨3, v, x, f⟩ z) _ (blk_range hS4.out) Tryz.underlying46 rfl (doc_size _ _) ?_)
          refine (q3 _ (by first | exact hB4.out | exact (hB4.out))).mono ?_
          clear q3
          rintro e v4 ⟨rfl, hb⟩
          have hB5 := Box.mk (mono_bel hB4.out hb (Nat.le_refl _))
          clear hb
          go_wp2_with fail
          go_ret
          exact ⟨by simp, hB5.out⟩
      | false =>
        go_wp2_with (refine wpList_loadG (by rfl) 46 (.tmp 1) rfl w.heap.size 0 rfl (docL ⟨3, v, x, f⟩ z) _ (blk_range hS3.out) Tryz.underlying46 rfl (doc_size _ _) ?_)
        refine (q2 _ (by first | exact hB3.out | exact (hB3.out))).mono ?_
        clear q2
        rintro e v3 ⟨rfl, hb⟩
        have hB4 := Box.mk (mono_bel hB3.out hb (Nat.le_refl _))
        clear hb
        go_wp2_with fail
        go_ret
        exact ⟨by simp, hB4.out⟩
    | false =>
      go_wp2_with (refine wpList_loadG (by rfl) 46 (.tmp 1) rfl w.heap.size 0 rfl (docL ⟨3, v, x, f⟩ z) _ (blk_range hS2.out) Tryz.underlying46 rfl (doc_size _ _) ?_)
      refine (q1 _ (by first | exact hB2.out | exact (hB2.out))).mono ?_
      clear q1
      rintro e v2 ⟨rfl, hb⟩
      have hB3 := Box.mk (mono_bel hB2.out hb (Nat.le_refl _))
      clear hb
      go_wp2_with fail
      go_ret
      exact ⟨by simp, hB3.out⟩
  | false =>
    go_wp2_with (refine wpList_loadG (by rfl) 46 (.tmp 1) rfl w.heap.size 0 rfl (docL ⟨3, v, x, f⟩ z) _ (blk_range hS1.out) Tryz.underlying46 rfl (doc_size _ _) ?_)
    refine (q0 _ (by first | exact hB1.out | exact (hB1.out))).mono ?_
    clear q0
    rintro e v1 ⟨rfl, hb⟩
    have hB2 := Box.mk (mono_bel hB1.out hb (Nat.le_refl _))
    clear hb
    go_wp2_with fail
    go_ret
    exact ⟨by simp, hB2.out⟩
set_option maxHeartbeats 3200000 in
set_option maxRecDepth 100000 in
theorem fields_4 (d : Dc) (z : Sl) (B : Nat) (w : World) (hL : NL B w) (hB : B ≤ w.heap.size) (hv : DcAt w z d) (ho : DcOk d) (hk : d.k = 4) :
    Calls Tryz.prog 75 #[docV d z] w fun e w' => e = .returned (.bool (fldB d.k d.f)) ∧ Below w.heap.size w w' := by
  obtain ⟨k, v, x, f⟩ := d
  dsimp only at hk
  subst hk
  obtain ⟨W1, hW1, hB1, hS1⟩ := doc_new w ⟨4, v, x, f⟩ z 46
  replace hS1 := Box.mk hS1
  have q0 := fun w' (hb : Below w.heap.size w w') => norules_any ⟨4, v, x, f⟩ z w'
  have q1 := fun w' (hb : Below w.heap.size w w') => nolist_any ⟨4, v, x, f⟩ z w'
  have q2 := fun w' (hb : Below w.heap.size w w') => nopoint_any ⟨4, v, x, f⟩ z w'
  have q3 := fun w' (hb : Below w.heap.size w w') => glink_any ⟨4, v, x, f⟩ z w'
  obtain ⟨b0, hb0⟩ : ∃ b, noRu f = b := ⟨_, rfl⟩
  obtain ⟨b1, hb1⟩ : ∃ b, noLs f = b := ⟨_, rfl⟩
  obtain ⟨b2, hb2⟩ : ∃ b, noPt f = b := ⟨_, rfl⟩
  obtain ⟨b3, hb3⟩ : ∃ b, lkB f = b := ⟨_, rfl⟩
  have eR : fldB 4 f = (b0 && (b1 && (b2 && b3))) := by unfold fldB; rw [if_neg (by decide), if_neg (by decide), if_neg (by decide), if_pos rfl, hb0, hb1, hb2, hb3]
  dsimp only
  rw [eR]
  rw [hb0] at q0
  rw [hb1] at q1
  rw [hb2] at q2
  rw [hb3] at q3
  clear hb0 hb1 hb2 hb3 hL hB hv ho eR
  show Calls _ _ #[.agg (docL _ z).toArray] w _
  go_enter Tryz.func75, Tryz.ntmps75
  obtain ⟨s0, s1, s2, s3, s4, s5, s6, s7, s8, s9, s10, s11, s12, s13, s14, s15, s16, s17, s18, s19, s20⟩ := doc_cells hS1.out
  cases b0 with
  | true =>
    go_wp2_with (refine wpList_loadG (by rfl) 46 (.tmp 1) rfl w.heap.size 0 rfl (docL ⟨4, v, x, f⟩ z) _ (blk_range hS1.out) Tryz.underlying46 rfl (doc_size _ _) ?_)
    refine (q0 _ (by first | exact hB1.out | exact (hB1.out))).mono ?_
    clear q0
    rintro e v1 ⟨rfl, hb⟩
    have hB2 := Box.mk (mono_bel hB1.out hb (Nat.le_refl _))
    have hS2 := doc_here hS1 hb
    clear hb hB1 hS1 s0 s1 s2 s3 s4 s5 s6 s7 s8 s9 s10 s11 s12 s13 s14 s15 s16 s17 s18 s19 s20
    obtain ⟨s0, s1, s2, s3, s4, s5, s6, s7, s8, s9, s10, s11, s12, s13, s14, s15, s16, s17, s18, s19, s20⟩ := doc_cells hS2.out
    cases b1 with
    | true =>
      go_wp2_with (refine wpList_loadG (by rfl) 46 (.tmp 1) rfl w.heap.size 0 rfl (docL ⟨4, v, x, f⟩ z) _ (blk_range hS2.out) Tryz.underlying46 rfl (doc_size _ _) ?_)
      refine (q1 _ (by first | exact hB2.out | exact (hB2.out))).mono ?_
      clear q1
      rintro e v2 ⟨rfl, hb⟩
      have hB3 := Box.mk (mono_bel hB2.out hb (Nat.le_refl _))
      have hS3 := doc_here hS2 hb
      clear hb hB2 hS2 s0 s1 s2 s3 s4 s5 s6 s7 s8 s9 s10 s11 s12 s13 s14 s15 s16 s17 s18 s19 s20
      obtain ⟨s0, s1, s2, s3, s4, s5, s6, s7, s8, s9, s10, s11, s12, s13, s14, s15, s16, s17, s18, s19, s20⟩ := doc_cells hS3.out
      cases b2 with
      | true =>
        go_wp2_with (refine wpList_loadG (by rfl) 46 (.tmp 1) rfl w.heap.size 0 rfl (docL ⟨4, v, x, f⟩ z) _ (blk_range hS3.out) Tryz.underlying46 rfl (doc_size _ _) ?_)
        refine (q2 _ (by first | exact hB3.out | exact (hB3.out))).mono ?_
        clear q2
        rintro e v3 ⟨rfl, hb⟩
        have hB4 := Box.mk (mono_bel hB3.out hb (Nat.le_refl _))
        have hS4 := doc_here hS3 hb
        clear hb hB3 hS3 s0 s1 s2 s3 s4 s5 s6 s7 s8 s9 s10 s11 s12 s13 s14 s15 s16 s17 s18 s19 s20
        obtain ⟨s0, s1, s2, s3, s4, s5, s6, s7, s8, s9, s10, s11, s12, s13, s14, s15, s16, s17, s18, s19, s20⟩ := doc_cells hS4.out
        cases b3 with
        | true =>
          go_wp2_with (refine wpList_loadG (by rfl) 46 (.tmp 1) rfl w.heap.size 0 rfl (docL ⟨4, v, x, f⟩ z) _ (blk_range hS4.out) Tryz.underlying46 rfl (doc_size _ _) ?_)
          refine (q3 _ (by first | exact hB4.out | exact (hB4.out))).mono ?_
          clear q3
          rintro e v4 ⟨rfl, hb⟩
          have hB5 := Box.mk (mono_bel hB4.out hb (Nat.le_refl _))
          clear hb
          go_wp2_with fail
          go_ret
          exact ⟨by simp, hB5.out⟩
        | false =>
          go_wp2_with (refine wpList_loadG (by rfl) 46 (.tmp 1) rfl w.heap.size 0 rfl (docL ⟨4, v, x, f⟩ z) _ (blk_range hS4.out) Tryz.underlying46 rfl (doc_size _ _) ?_)
          refine (q3 _ (by first | exact hB4.out | exact (hB4.out))).mono ?_
          clear q3
          rintro e v4 ⟨rfl, hb⟩
          have hB5 := Box.mk (mono_bel hB4.out hb (Nat.le_refl _))
          clear hb
          go_wp2_with fail
          go_ret
          exact ⟨by simp, hB5.out⟩
      | false =>
        go_wp2_with (refine wpList_loadG (by rfl) 46 (.tmp 1) rfl w.heap.size 0 rfl (docL ⟨4, v, x, f⟩ z) _ (blk_range hS3.out) Tryz.underlying46 rfl (doc_size _ _) ?_)
        refine (q2 _ (by first | exact hB3.out | exact (hB3.out))).mono ?_
        clear q2
        rintro e v3 ⟨rfl, hb⟩
        have hB4 := Box.mk (mono_bel hB3.out hb (Nat.le_refl _))
        clear hb
        go_wp2_with fail
        go_ret
        exact ⟨by simp, hB4.out⟩
    | false =>
      go_wp2_with (refine wpList_loadG (by rfl) 46 (.tmp 1) rfl w.heap.size 0 rfl (docL ⟨4, v, x, f⟩ z) _ (blk_range hS2.out) Tryz.underlying46 rfl (doc_size _ _) ?_)
      refine (q1 _ (by first | exact hB2.out | exact (hB2.out))).mono ?_
      clear q1
      rintro e v2 ⟨rfl, hb⟩
      have hB3 := Box.mk (mono_bel hB2.out hb (Nat.le_refl _))
      clear hb
      go_wp2_with fail
      go_ret
      exact ⟨by simp, hB3.out⟩
  | false =>
    go_wp2_with (refine wpList_loadG (by rfl) 46 (.tmp 1) rfl w.heap.size 0 rfl (docL ⟨4, v, x, f⟩ z) _ (blk_range hS1.out) Tryz.underlying46 rfl (doc_size _ _) ?_)
    refine (q0 _ (by first | exact hB1.out | exact (hB1.out))).mono ?_
    clear q0
    rintro e v1 ⟨rfl, hb⟩
    have hB2 := Box.mk (mono_bel hB1.out hb (Nat.le_refl _))
    clear hb
    go_wp2_with fail
    go_ret
    exact ⟨by simp, hB2.out⟩
set_option maxHeartbeats 3200000 in
set_option maxRecDepth 100000 in
theorem fields_none (d : Dc) (z : Sl) (w : World) (h1 : ¬ d.k = 1) (h2 : ¬ d.k = 2) (h3 : ¬ d.k = 3) (h4 : ¬ d.k = 4) :
    Calls Tryz.prog 75 #[docV d z] w fun e w' => e = .returned (.bool (fldB d.k d.f)) ∧ Below w.heap.size w w' := by
  obtain ⟨W1, hW1, hB1, hS1⟩ := doc_new w d z 46
  have s0 := (doc_cells hS1).1
  have eR : fldB d.k d.f = false := by unfold fldB; rw [if_neg h1, if_neg h2, if_neg h3, if_neg h4]
  rw [eR]
  clear hS1 eR
  show Calls _ _ #[.agg (docL _ z).toArray] w _
  go_enter Tryz.func75, Tryz.ntmps75
  go_wp2_with fail
  go_ret
  exact ⟨rfl, hB1.out⟩
theorem fields_any (d : Dc) (z : Sl) (B : Nat) (w : World) (hL : NL B w) (hB : B ≤ w.heap.size) (hv : DcAt w z d) (ho : DcOk d) :
    Calls Tryz.prog 75 #[docV d z] w fun e w' => e = .returned (.bool (fldB d.k d.f)) ∧ Below w.heap.size w w' := by
  by_cases h1 : d.k = 1
  · exact fields_1 d z B w hL hB hv ho h1
  by_cases h2 : d.k = 2
  · exact fields_2 d z B w hL hB hv ho h2
  by_cases h3 : d.k = 3
  · exact fields_3 d z B w hL hB hv ho h3
  by_cases h4 : d.k = 4
  · exact fields_4 d z B w hL hB hv ho h4
  exact fields_none d z w h1 h2 h3 h4
set_option maxHeartbeats 3200000 in
set_option maxRecDepth 100000 in
theorem mcheck_any (d : Dc) (z : Sl) (B : Nat) (w : World) (hL : NL B w) (hB : B ≤ w.heap.size) (hv : DcAt w z d) (ho : DcOk d) :
    Calls Tryz.prog 40 #[docV d z] w fun e w' => e = .returned (.int .i64 (chkDE d)) ∧ Below w.heap.size w w' := by
  obtain ⟨W1, hW1, hB1, hS1⟩ := doc_new w d z 46
  replace hS1 := Box.mk hS1
  have hv1 := gversion_any d.v W1
  have hf := fun w' (hb : Below w.heap.size w w') => fields_any d z B w' (hL.here hB hb) (by have := hb.size; omega) (hv.here hb) ho
  obtain ⟨F, hF⟩ : ∃ F, fldB d.k d.f = F := ⟨_, rfl⟩
  obtain ⟨V, hV⟩ : ∃ V, decide (1 ≤ d.v ∧ d.v ≤ 65535) = V := ⟨_, rfl⟩
  obtain ⟨X, hX⟩ : ∃ X, decide (0 ≤ d.x ∧ d.x ≤ 1099511627776) = X := ⟨_, rfl⟩
  have eR : chkDE d = if (V && (X && F)) then 0 else 1 := by unfold chkDE chkD; rw [hF, hV, hX]
  rw [hF] at hf
  rw [hV] at hv1
  rw [eR]
  obtain ⟨-, s1, s2, -⟩ := doc_cells hS1.out
  clear eR hF hV hL hB hv ho
  replace hf := Box.mk hf
  show Calls _ _ #[.agg (docL _ z).toArray] w _
  go_enter Tryz.func40, Tryz.ntmps40
  go_wp2_with fail
  refine hv1.mono ?_
  clear hv1
  rintro e w1 ⟨rfl, hb⟩
  have hB2 := Box.mk (mono_bel hB1.out hb (Nat.le_refl _))
  have hS2 := doc_here hS1 hb
  clear hb hS1 s1 s2
  obtain ⟨-, -, s2, -⟩ := doc_cells hS2.out
  cases V with
  | false =>
    go_wp2_with fail
    go_ret
    exact ⟨by simp, hB2.out⟩
  | true =>
    by_cases g1 : d.x < 0
    · obtain rfl : X = false := by rw [← hX]; exact decide_eq_false (by omega)
      clear hX
      go_wp2_with fail
      go_ret
      exact ⟨by simp, hB2.out⟩
    by_cases g2 : 1099511627776 < d.x
    · obtain rfl : X = false := by rw [← hX]; exact decide_eq_false (by omega)
      clear hX
      go_wp2_with fail
      go_ret
      exact ⟨by simp, hB2.out⟩
    obtain rfl : X = true := by rw [← hX]; exact decide_eq_true (by omega)
    clear hX
    have hq := hf.out w1 hB2.out
    have g1d : decide (d.x < 0) = false := decide_eq_false g1
    have g2d : decide (d.x > 1099511627776) = false := decide_eq_false (by omega)
    have g3d : decide (1099511627776 < d.x) = false := decide_eq_false (by omega)
    clear hf g1 g2
    cases F with
    | true =>
      go_wp2_with (refine wpList_loadG (by rfl) 46 (.tmp 1) rfl w.heap.size 0 rfl (docL d z) _ (blk_range hS2.out) Tryz.underlying46 rfl (doc_size _ _) ?_)
      refine hq.mono ?_
      clear hq
      rintro e w2 ⟨rfl, hb⟩
      have hB3 := Box.mk (mono_bel hB2.out hb (Nat.le_refl _))
      clear hb
      go_wp2_with fail
      go_ret
      exact ⟨by simp, hB3.out⟩
    | false =>
      go_wp2_with (refine wpList_loadG (by rfl) 46 (.tmp 1) rfl w.heap.size 0 rfl (docL d z) _ (blk_range hS2.out) Tryz.underlying46 rfl (doc_size _ _) ?_)
      refine hq.mono ?_
      clear hq
      rintro e w2 ⟨rfl, hb⟩
      have hB3 := Box.mk (mono_bel hB2.out hb (Nat.le_refl _))
      clear hb
      go_wp2_with fail
      go_ret
      exact ⟨by simp, hB3.out⟩
end Go.Proofs.YthkfefkcjcgfkaaGreatDoor.Me
