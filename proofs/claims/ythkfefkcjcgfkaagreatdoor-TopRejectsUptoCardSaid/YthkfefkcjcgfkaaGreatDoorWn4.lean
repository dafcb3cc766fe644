/- Walks of note.Parse and of the document's Parse. -/
import Derived.Test.YthkfefkcjcgfkaaGreatDoorWn2
set_option linter.all false
namespace Go.Proofs.YthkfefkcjcgfkaaGreatDoor.Nt
open Go Go.RowKit

def PC (W : World) : World → Prop := fun w' => Below W.heap.size W w'
theorem PC.st (W : World) : St (PC W) (fun w w' => Below w.heap.size w w') (PC W) := ⟨fun _ h => h, fun _ _ h hb => mono_bel h hb (Nat.le_refl _)⟩
/-- What came in, and a block of one's own beside. -/
def PK (W : World) (b : Nat) (cs : List Value) (t : TypeId) : World → Prop := fun w' => Below W.heap.size W w' ∧ Pk.Blk w' b cs t ∧ W.heap.size ≤ b
theorem PK.st (W : World) (b : Nat) (cs : List Value) (t : TypeId) : St (PC W) (fun w w' => Below w.heap.size w w') (PK W b cs t) := ⟨fun _ h => h.1, fun _ _ h hb => ⟨mono_bel h.1 hb (Nat.le_refl _), (hb.block _ h.2.1.lt).trans h.2.1, h.2.2⟩⟩
theorem PK.new {W w' : World} (h : Below W.heap.size W w') (cs : List Value) (t : TypeId) : PK W w'.heap.size cs t (w'.alloc (.cells cs.toArray t)) := ⟨mono_bel h (bel_alloc _ _) (Nat.le_refl _), Pk.Blk.new _ _ _, h.size⟩
/-- In Parse: what it answers (a cell), the checkpoint that it reads. -/
structure P2 (w0 : World) (bt : Nat) (x y z : Value) (w : World) : Prop where
  b2 : Pk.Blk w w0.heap.size [.string ⟨#[]⟩, .int .i64 0, .string ⟨#[]⟩] 23
  b6 : Pk.Blk w bt [x, y, z] 23
  bel : Below w0.heap.size w0 w
  lt : w0.heap.size < bt
def fin3 (w0 w : World) (a b c : Value) : World := ((w.setCell ⟨w0.heap.size, 0, none⟩ a).setCell ⟨w0.heap.size, 1, none⟩ b).setCell ⟨w0.heap.size, 2, none⟩ c
theorem P2.on {w0 w w' : World} {bt : Nat} {x y z : Value} (h : P2 w0 bt x y z w) (hb : Below w.heap.size w w') : P2 w0 bt x y z w' :=
  ⟨(hb.block _ h.b2.lt).trans h.b2, (hb.block _ h.b6.lt).trans h.b6, mono_bel h.bel hb (Nat.le_refl _), h.lt⟩
theorem P2.cells {w0 w : World} {bt : Nat} {x y z : Value} (h : P2 w0 bt x y z w) : w.cell? ⟨bt, 0, none⟩ = some x ∧ w.cell? ⟨bt, 1, none⟩ = some y ∧ w.cell? ⟨bt, 2, none⟩ = some z ∧
    w.cell? ⟨w0.heap.size, 0, none⟩ = some (.string ⟨#[]⟩) ∧ w.cell? ⟨w0.heap.size, 1, none⟩ = some (.int .i64 0) ∧ w.cell? ⟨w0.heap.size, 2, none⟩ = some (.string ⟨#[]⟩) ∧
    w.frozen? ⟨w0.heap.size, 0, none⟩ = false ∧ w.frozen? ⟨w0.heap.size, 1, none⟩ = false ∧ w.frozen? ⟨w0.heap.size, 2, none⟩ = false :=
  ⟨h.b6.cell 0, h.b6.cell 1, h.b6.cell 2, h.b2.cell 0, h.b2.cell 1, h.b2.cell 2, h.b2.free 0, h.b2.free 1, h.b2.free 2⟩
theorem fin3_out {w0 w : World} (hb : Pk.Blk w w0.heap.size [.string ⟨#[]⟩, .int .i64 0, .string ⟨#[]⟩] 23) (hB : Below w0.heap.size w0 w) (a b c : Value) : (fin3 w0 w a b c).cell? ⟨w0.heap.size, 0, none⟩ = some a ∧ (fin3 w0 w a b c).cell? ⟨w0.heap.size, 1, none⟩ = some b ∧ (fin3 w0 w a b c).cell? ⟨w0.heap.size, 2, none⟩ = some c ∧ Below w0.heap.size w0 (fin3 w0 w a b c) := by
  have k : Pk.Blk (fin3 w0 w a b c) w0.heap.size [a, b, c] 23 := ((hb.setCell 0 a).setCell 1 b).setCell 2 c
  exact ⟨k.cell 0, k.cell 1, k.cell 2, ((hB.setCell (p := ⟨w0.heap.size, 0, none⟩) (Nat.le_refl _) a).setCell (p := ⟨w0.heap.size, 1, none⟩) (Nat.le_refl _) b).setCell (p := ⟨w0.heap.size, 2, none⟩) (Nat.le_refl _) c⟩
theorem P2.of_sto {w0 W w : World} {bt : Nat} {x y z : Value} (hW : Below w0.heap.size w0 W) (hb2 : Pk.Blk W w0.heap.size [.string ⟨#[]⟩, .int .i64 0, .string ⟨#[]⟩] 23)
    (h : PK W bt [.string ⟨#[]⟩, .int .i64 0, .string ⟨#[]⟩] 23 w) : P2 w0 bt x y z (((w.setCell ⟨bt, 0, none⟩ x).setCell ⟨bt, 1, none⟩ y).setCell ⟨bt, 2, none⟩ z) := by
  obtain ⟨h1, h2, h3⟩ := h
  have hl := hb2.lt
  have hBW := mono_bel hW h1 (Nat.le_refl _)
  have hbb : Pk.Blk w w0.heap.size [.string ⟨#[]⟩, .int .i64 0, .string ⟨#[]⟩] 23 := (h1.block _ hl).trans hb2
  refine ⟨?_, ((h2.setCell 0 x).setCell 1 y).setCell 2 z, ((hBW.setCell (p := ⟨bt, 0, none⟩) (by simp; omega) x).setCell (p := ⟨bt, 1, none⟩) (by simp; omega) y).setCell (p := ⟨bt, 2, none⟩) (by simp; omega) z, by omega⟩
  exact ((Below.heap_setCell _ _ _ _ (by simp; omega)).trans (Below.heap_setCell _ _ _ _ (by simp; omega))).trans ((Below.heap_setCell _ _ _ _ (by simp; omega)).trans hbb)
/-- What Parse answers. -/
def prV (s : ByteArray) : Value := match pCk s.data.toList with
  | some c => .tuple #[ckV c, .int .i64 0]
  | none => .tuple #[ckV ⟨⟨#[]⟩, 0, ⟨#[]⟩⟩, .int .i64 3]
theorem prV_none {s : ByteArray} (h : pCk s.data.toList = none) : prV s = .tuple #[.agg #[.string ⟨#[]⟩, .int .i64 0, .string ⟨#[]⟩], .int .i64 3] := by unfold prV; rw [h]; rfl
theorem prV_some {s : ByteArray} {c : Ck} (h : pCk s.data.toList = some c) : prV s = .tuple #[.agg #[.string c.o, .int .i64 c.n, .string c.r], .int .i64 0] := by unfold prV; rw [h]; rfl
theorem cellsOf_get (q : List ByteArray) (N i : Nat) (h : i < q.length) : (Lib.cellsOf q N)[i]? = some (.string (q.getD i ByteArray.empty)) := by
  unfold Lib.cellsOf
  rw [List.getElem?_toArray, List.getElem?_append_left (by simpa using h), List.getElem?_map]
  simp [List.getD, h]
theorem getD_data (q : List ByteArray) (i : Nat) : (q.getD i ByteArray.empty).data.toList = (q.map (·.data.toList)).getD i [] := by
  rcases Nat.lt_or_ge i q.length with h | h
  · simp [List.getD, h]
  · simp [List.getD, h]
def pcs (s : ByteArray) : List ByteArray := Lib.splitB ⟨#[10]⟩ 0 (min 5 (s.size + 1) - 1) s
theorem ckP_B (s : ByteArray) : ckP s.data.toList = if (pcs s).length ≤ 4 then none else some ⟨(pcs s).getD 1 ByteArray.empty, numI ((pcs s).getD 2 ByteArray.empty).data.toList, unT ((pcs s).getD 3 ByteArray.empty).data.toList⟩ := by
  have h := Lib.splitB_data ⟨#[10]⟩ 0 (min 5 (s.size + 1) - 1) s
  have hp : (pcs s).map (·.data.toList) = Lib.splitK nl 0 (min 5 (s.data.toList.length + 1) - 1) s.data.toList := by rw [data_len]; exact h
  unfold ckP
  simp only [← hp, List.length_map]
  by_cases h4 : (pcs s).length ≤ 4
  · rw [if_pos h4, if_pos h4]
  · rw [if_neg h4, if_neg h4, getD_data, getD_data, ← getD_data]
theorem pcs_size (s : ByteArray) (i : Nat) : ((pcs s).getD i ByteArray.empty).size ≤ s.size := by
  have : ∀ (k : Nat) (z : ByteArray), ∀ x ∈ Lib.splitB ⟨#[10]⟩ 0 k z, x.size ≤ z.size := by
    intro k
    induction k with
    | zero => intro z x hx; rw [Lib.splitB_zero] at hx; rw [List.mem_singleton.1 hx]; exact Nat.le_refl _
    | succ k ih =>
      intro z x hx
      unfold Lib.splitB at hx
      split at hx
      · rw [List.mem_singleton.1 hx]; exact Nat.le_refl _
      · rcases List.mem_cons.1 hx with h | h
        · rw [h, ByteArray.size_extract]; omega
        · have := ih _ x h
          rw [ByteArray.size_extract] at this
          omega
  rcases Nat.lt_or_ge i (pcs s).length with h | h
  · have e : (pcs s).getD i ByteArray.empty = (pcs s)[i] := by simp [List.getD, h]
    rw [e]
    exact this _ _ _ (List.getElem_mem h)
  · have e : (pcs s).getD i ByteArray.empty = ByteArray.empty := by simp [List.getD, h]
    rw [e]; exact Nat.zero_le _
theorem pCk_cand {s : ByteArray} {c : Ck} (h : chkC gC ckL s.data.toList (some c) = pCk s.data.toList) : (gC c = true → ckT c = s → pCk s.data.toList = some c) ∧ ((gC c = false ∨ ckT c ≠ s) → pCk s.data.toList = none) := by
  rw [← h]
  unfold chkC
  refine ⟨fun h1 h2 => ?_, fun h1 => ?_⟩
  · simp only [h1, ← h2, true_and]
    rw [if_pos (show ckL c = (ckT c).data.toList from rfl)]
  · simp only
    rw [if_neg]
    rintro ⟨h2, h3⟩
    rcases h1 with h1 | h1
    · rw [h2] at h1; cases h1
    · exact h1 (ba_ext h3)
set_option maxHeartbeats 6400000 in
set_option maxRecDepth 100000 in
theorem parse_any (s : ByteArray) (B : Nat) (w : World) (hL : NL B w) (hB : B ≤ w.heap.size) (hs : s.size ≤ 1073741824) :
    Calls Tryz.prog 4 #[.string s] w fun e w' => e = .returned (prV s) ∧ Below w.heap.size w w' := by
  obtain ⟨wa, hwa⟩ : ∃ wa, w.alloc (.cells #[.string ⟨#[]⟩, .int .i64 0, .string ⟨#[]⟩] 23) = wa := ⟨_, rfl⟩
  have hBa : Below w.heap.size w wa := by rw [← hwa]; exact bel_alloc _ _
  have hSa : Pk.Blk wa w.heap.size [.string ⟨#[]⟩, .int .i64 0, .string ⟨#[]⟩] 23 := by rw [← hwa]; exact Pk.Blk.new w _ _
  obtain ⟨k, hk⟩ := (hL.here hB hBa).m
  have hSp := Tryz.strings_SplitN s ⟨#[10]⟩ 5 k wa (by omega) hk (by decide) (by decide) (by decide)
  have hcd := ckP_B s
  have hpc : pCk s.data.toList = chkC gC ckL s.data.toList (ckP s.data.toList) := rfl
  rw [hcd] at hpc
  have hps := pcs_size s
  obtain ⟨q, hq⟩ : ∃ q, pcs s = q := ⟨_, rfl⟩
  have hq' : Lib.splitB ⟨#[10]⟩ 0 (min 5 (s.size + 1) - 1) s = q := hq
  rw [hq'] at hSp
  rw [hq] at hpc hps
  obtain ⟨N, hN⟩ : ∃ N, min 5 (s.size + 1) = N := ⟨_, rfl⟩
  rw [hN] at hSp
  obtain ⟨wb, hwb⟩ : ∃ wb, wa.alloc (.cells (Lib.cellsOf q N) 9) = wb := ⟨_, rfl⟩
  have hBb : Below wa.heap.size wa wb := by rw [← hwb]; exact bel_alloc _ _
  have hSb : wb.heap[wa.heap.size]? = some (.cells (Lib.cellsOf q N) 9 (0, 0)) := by rw [← hwb]; exact heap_alloc_new wa _
  have hcell : ∀ i, i < q.length → wb.cell? ⟨wa.heap.size, i, none⟩ = some (.string (q.getD i ByteArray.empty)) := fun i hi => by rw [cell_of_row _ _ _ _ _ _ hSb]; exact cellsOf_get q N i hi
  rw [hwb] at hSp
  have hB2 := mono_bel hBa hBb (Nat.le_refl _)
  have hS2 : Pk.Blk wb w.heap.size [.string ⟨#[]⟩, .int .i64 0, .string ⟨#[]⟩] 23 := (hBb.block _ hSa.lt).trans hSa
  have hglt : wa.heap.size < wb.heap.size := (Array.getElem?_eq_some_iff.1 hSb).1
  obtain ⟨g, hg⟩ : ∃ g, wa.heap.size = g := ⟨_, rfl⟩
  rw [hg] at hSp hcell hglt
  have hLb := Box.mk (hL.here hB hB2)
  have hBs : Box (B ≤ wb.heap.size) := ⟨Nat.le_trans hB hB2.size⟩
  obtain ⟨L, hLe⟩ : ∃ L, q.length = L := ⟨_, rfl⟩
  rw [hLe] at hSp hpc hcell
  have hLN : L ≤ N := by rw [← hLe, ← hq', ← hN]; have := Lib.splitB_length_le ⟨#[10]⟩ 0 (min 5 (s.size + 1) - 1) s; omega
  have hN5 : N ≤ 5 := by omega
  replace hB2 := Box.mk hB2
  replace hS2 := Box.mk hS2
  clear hk hcd hq hq' hN hwb hBb hSb hSa hBa hL hB hg hLe
  by_cases h4 : L ≤ 4
  · rw [if_pos h4] at hpc
    have hv := Box.mk (prV_none (s := s) hpc)
    have hfin := Box.mk (fin3_out hS2.out hB2.out (.string ⟨#[]⟩) (.int .i64 0) (.string ⟨#[]⟩))
    obtain ⟨c0, c1, c2, f0, f1, f2⟩ : _ ∧ _ ∧ _ ∧ _ ∧ _ ∧ _ := ⟨hS2.out.cell 0, hS2.out.cell 1, hS2.out.cell 2, hS2.out.free 0, hS2.out.free 1, hS2.out.free 2⟩
    simp only [List.getElem?_cons_zero, List.getElem?_cons_succ] at c0 c1 c2
    clear hpc hcell hps hLb hBs hglt hLN
    go_enter Tryz.func4, Tryz.ntmps4
    go_wp2_with fail
    refine hSp.mono ?_
    clear hSp
    rintro e w1 ⟨rfl, rfl⟩
    go_wp2_with fail
    have hf := hfin.out
    unfold fin3 at hf
    obtain ⟨k0, k1, k2, hbf⟩ := hf
    clear c0 c1 c2 f0 f1 f2
    refine bodyPost_ret (v := .tuple #[.agg #[.string ⟨#[]⟩, .int .i64 0, .string ⟨#[]⟩], .int .i64 3]) (by simp [results, Tryz.results4, go_sem, k0, k1, k2]; try rfl) rfl ⟨by rw [hv.out], hbf⟩
  · rw [if_neg h4] at hpc
    have hcd := pCk_cand hpc.symm
    have h4' : 4 < L := by omega
    have p1 := hcell 1 (by omega)
    have p2 := hcell 2 (by omega)
    have p3 := hcell 3 (by omega)
    have z1 := hps 1
    have z2 := hps 2
    have z3 := hps 3
    obtain ⟨x1, hx1⟩ : ∃ x, q.getD 1 ByteArray.empty = x := ⟨_, rfl⟩
    obtain ⟨x2, hx2⟩ : ∃ x, q.getD 2 ByteArray.empty = x := ⟨_, rfl⟩
    obtain ⟨x3, hx3⟩ : ∃ x, q.getD 3 ByteArray.empty = x := ⟨_, rfl⟩
    rw [hx1] at p1 z1 hcd
    rw [hx2] at p2 z2 hcd
    rw [hx3] at p3 z3 hcd
    have hNm := Box.mk (fun w' (hw : Below wb.heap.size wb w') => number_any x2 B w' (hLb.out.here hBs.out hw) (by omega))
    have hUn := Box.mk (fun w' => nunhex_any x3 w' (by omega))
    obtain ⟨I, hI⟩ : ∃ I, numI x2.data.toList = I := ⟨_, rfl⟩
    obtain ⟨R, hR⟩ : ∃ R, unT x3.data.toList = R := ⟨_, rfl⟩
    rw [hI] at hNm hcd
    have hRz : R.size ≤ 1073741824 := by rw [← hR]; have := unT_size x3; omega
    rw [hR] at hUn hcd
    have hTx := Box.mk (fun w' (hw : Below wb.heap.size wb w') => text_any ⟨x1, I, R⟩ B w' (hLb.out.here hBs.out hw) (Nat.le_trans hBs.out hw.size) (by show x1.size ≤ _; omega) (by show R.size ≤ _; omega))
    have hcc := Box.mk (fun w' (hw : Below wb.heap.size wb w') => (⟨(hw.cell (p := ⟨g, 1, none⟩) hglt).trans p1, (hw.cell (p := ⟨g, 2, none⟩) hglt).trans p2, (hw.cell (p := ⟨g, 3, none⟩) hglt).trans p3⟩ : _ ∧ _ ∧ _))
    replace hcd := Box.mk hcd
    clear hpc hps hx1 hx2 hx3 hI hR hRz hcell z1 z2 z3 p1 p2 p3 hglt hLb hBs h4
    go_enter Tryz.func4, Tryz.ntmps4
    go_wp2_with fail
    refine hSp.mono ?_
    clear hSp
    rintro e w1 ⟨rfl, hw1⟩
    obtain rfl : wb = w1 := hw1.symm
    go_wp2_with fail
    refine region_steady (PC wb) (fun w w' => Below w.heap.size w w') rfl (dB wb) ?_
    refine anyS_calms [0, 1, 2, 3, 4, 5, 7, 8, 9] 5 rfl (fun _ => Below.refl _ _) (PC.st wb) (by kernel_rfl) (by kernel_rfl) (by kernel_rfl) ?_
    simp [nth]
    try simp only [Act.put, List.setIfInBounds_toArray, List.set_cons_succ, List.set_cons_zero]
    repeat (go_big_quiet_step (first | exact fun _ => rfl | rfl))
    refine quiet_val rfl (.string x1) (fun w' hw' => by have h3 := (hcc.out w' hw').1; go_simp) ?_
    simp only [Act.put, List.setIfInBounds_toArray, List.set_cons_succ, List.set_cons_zero]
    repeat (go_big_quiet_step (first | exact fun _ => rfl | rfl))
    refine quiet_val rfl (.string x2) (fun w' hw' => by have h3 := (hcc.out w' hw').2.1; go_simp) ?_
    simp only [Act.put, List.setIfInBounds_toArray, List.set_cons_succ, List.set_cons_zero]
    repeat (go_big_quiet_step (first | exact fun _ => rfl | rfl))
    refine quiet_val rfl (.string x3) (fun w' hw' => by have h3 := (hcc.out w' hw').2.2; go_simp) ?_
    simp only [Act.put, List.setIfInBounds_toArray, List.set_cons_succ, List.set_cons_zero]
    refine wpQuiet_nil ?_
    refine anyS_call 6 (.int .i64 I) (fun _ => Below.refl _ _) (PC.st wb) (by kernel_rfl) rfl (by kernel_rfl) (by kernel_rfl) rfl (fun w' hw' => hNm.out w' hw') (fun w' _ => by go_simp) ?_
    refine anyS_call 10 (.string R) (fun _ => Below.refl _ _) (PC.st wb) (by kernel_rfl) rfl (by kernel_rfl) (by kernel_rfl) rfl (fun w' _ => hUn.out w') (fun w' _ => by go_simp) ?_
    refine anyS_calms [11] 2 rfl (fun _ => Below.refl _ _) (PC.st wb) (by kernel_rfl) (by kernel_rfl) (by kernel_rfl) ?_
    simp [nth]
    try simp only [Act.put, List.setIfInBounds_toArray, List.set_cons_succ, List.set_cons_zero]
    repeat (go_big_quiet_step (first | exact fun _ => rfl | rfl))
    refine wpQuiet_nil ?_
    clear hNm hUn hcc
    refine anyS_forced 12 (by kernel_rfl) rfl rfl (fun wc hWc K hK => ?_)
    go_simp
    refine hK _ _ (PK wb wc.heap.size [.string ⟨#[]⟩, .int .i64 0, .string ⟨#[]⟩] 23) (PK.st _ _ _ _) (PK.new hWc _ _) ?_
    clear hK K hWc
    generalize wc.heap.size = bt
    clear wc
    refine anyS_last 13 (by kernel_rfl) rfl rfl (by kernel_rfl) (by kernel_rfl) (fun wd hWd K hK => ?_)
    have q0 : wd.cell? ⟨bt, 0, none⟩ = some (.string ⟨#[]⟩) := hWd.2.1.cell 0
    have q1 : wd.cell? ⟨bt, 1, none⟩ = some (.int .i64 0) := hWd.2.1.cell 1
    have q2 : wd.cell? ⟨bt, 2, none⟩ = some (.string ⟨#[]⟩) := hWd.2.1.cell 2
    have f0 := hWd.2.1.free 0
    have f1 := hWd.2.1.free 1
    have f2 := hWd.2.1.free 2
    have hQ := P2.of_sto (x := .string x1) (y := .int .i64 I) (z := .string R) hB2.out hS2.out hWd
    have hBq : Box (Below wb.heap.size wb (((wd.setCell ⟨bt, 0, none⟩ (.string x1)).setCell ⟨bt, 1, none⟩ (.int .i64 I)).setCell ⟨bt, 2, none⟩ (.string R))) := ⟨((hWd.1.setCell (p := ⟨bt, 0, none⟩) hWd.2.2 _).setCell (p := ⟨bt, 1, none⟩) hWd.2.2 _).setCell (p := ⟨bt, 2, none⟩) hWd.2.2 _⟩
    replace hQ := Box.mk hQ
    clear hWd
    go_simp
    refine hK _ _ ?_
    clear hK K q0 q1 q2 f0 f1 f2
    generalize (((wd.setCell ⟨bt, 0, none⟩ (.string x1)).setCell ⟨bt, 1, none⟩ (.int .i64 I)).setCell ⟨bt, 2, none⟩ (.string R)) = wq at hQ hBq ⊢
    clear wd
    obtain ⟨a0, a1, a2, c0, c1, c2, f0, f1, f2⟩ := hQ.out.cells
    have hTxq := hTx.out wq hBq.out
    clear hTx hBq
    cases hgc : gC ⟨x1, I, R⟩ with
    | false =>
      have hv := Box.mk (prV_none (s := s) (hcd.out.2 (.inl hgc)))
      rw [txtV_no hgc] at hTxq
      unfold ckV at hTxq
      simp only at hTxq
      clear hcd hgc
      go_wp2_with fail
      refine hTxq.mono ?_
      clear hTxq a0 a1 a2 c0 c1 c2 f0 f1 f2
      rintro e w5 ⟨rfl, hb5⟩
      replace hQ := Box.mk (hQ.out.on hb5)
      obtain ⟨a0, a1, a2, c0, c1, c2, f0, f1, f2⟩ := hQ.out.cells
      clear hb5
      go_wp2_with fail
      have hf := fin3_out hQ.out.b2 hQ.out.bel (.string ⟨#[]⟩) (.int .i64 0) (.string ⟨#[]⟩)
      unfold fin3 at hf
      obtain ⟨k0, k1, k2, hbf⟩ := hf
      clear c0 c1 c2 f0 f1 f2 a0 a1 a2
      refine bodyPost_ret (v := .tuple #[.agg #[.string ⟨#[]⟩, .int .i64 0, .string ⟨#[]⟩], .int .i64 3]) (by simp [results, Tryz.results4, go_sem, k0, k1, k2]; try rfl) rfl ⟨by rw [hv.out], hbf⟩
    | true =>
      rw [txtV_yes hgc] at hTxq
      unfold ckV at hTxq
      simp only at hTxq
      obtain ⟨T, hT⟩ : ∃ T, ckT ⟨x1, I, R⟩ = T := ⟨_, rfl⟩
      rw [hT] at hTxq
      have hqs := tl_eq T s
      by_cases he : T = s
      · have hv := Box.mk (prV_some (s := s) (hcd.out.1 hgc (by rw [hT, he])))
        simp only at hv
        have hq2 : (T.toList != s.toList) = false := by rw [bne, hqs, decide_eq_true he]; rfl
        rw [decide_eq_true he] at hqs
        clear hcd hgc hT he
        go_wp2_with fail
        refine hTxq.mono ?_
        clear hTxq a0 a1 a2 c0 c1 c2 f0 f1 f2
        rintro e w5 ⟨rfl, hb5⟩
        replace hQ := Box.mk (hQ.out.on hb5)
        obtain ⟨a0, a1, a2, c0, c1, c2, f0, f1, f2⟩ := hQ.out.cells
        clear hb5
        go_wp2_with fail
        have hf := fin3_out hQ.out.b2 hQ.out.bel (.string x1) (.int .i64 I) (.string R)
        unfold fin3 at hf
        obtain ⟨k0, k1, k2, hbf⟩ := hf
        clear c0 c1 c2 f0 f1 f2 a0 a1 a2
        refine bodyPost_ret (v := .tuple #[.agg #[.string x1, .int .i64 I, .string R], .int .i64 0]) (by simp [results, Tryz.results4, go_sem, k0, k1, k2]; try rfl) rfl ⟨by rw [hv.out], hbf⟩
      · have hv := Box.mk (prV_none (s := s) (hcd.out.2 (.inr (by rw [hT]; exact he))))
        have hq2 : (T.toList != s.toList) = true := by rw [bne, hqs, decide_eq_false he]; rfl
        rw [decide_eq_false he] at hqs
        clear hcd hgc hT he
        go_wp2_with fail
        refine hTxq.mono ?_
        clear hTxq a0 a1 a2 c0 c1 c2 f0 f1 f2
        rintro e w5 ⟨rfl, hb5⟩
        replace hQ := Box.mk (hQ.out.on hb5)
        obtain ⟨a0, a1, a2, c0, c1, c2, f0, f1, f2⟩ := hQ.out.cells
        clear hb5
        go_wp2_with fail
        have hf := fin3_out hQ.out.b2 hQ.out.bel (.string ⟨#[]⟩) (.int .i64 0) (.string ⟨#[]⟩)
        unfold fin3 at hf
        obtain ⟨k0, k1, k2, hbf⟩ := hf
        clear c0 c1 c2 f0 f1 f2 a0 a1 a2
        refine bodyPost_ret (v := .tuple #[.agg #[.string ⟨#[]⟩, .int .i64 0, .string ⟨#[]⟩], .int .i64 3]) (by simp [results, Tryz.results4, go_sem, k0, k1, k2]; try rfl) rfl ⟨by rw [hv.out], hbf⟩
/-! The document's. -/
end Go.Proofs.YthkfefkcjcgfkaaGreatDoor.Nt
