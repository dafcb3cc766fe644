/- meta: what the program lays of a root; of any kind; Encode. -/
import Derived.Test.YthkfefkcjcgfkaaGreatDoorWmg
set_option linter.all false
namespace Go.Proofs.YthkfefkcjcgfkaaGreatDoor.Me
open Go Go.RowKit Go.Proofs.YthkfefkcjcgfkaaGreatDoor Go.Proofs.YthkfefkcjcgfkaaGreatDoor.Nt
theorem setIs_len (ids : List ByteArray) (n : Int) : (setIs ids n).length ≤ 18 := by
  unfold setIs
  by_cases h : chkB ids n = true
  · rw [if_pos h, List.length_cons, List.length_append, List.length_map]
    have := ((chkB_iff ids n).1 h).2.2.1
    simp; omega
  · rw [if_neg h]; simp
def rIt (d : Dc) : Nat → List (Bool × List UInt8)
  | 0 => []
  | 1 => setIs d.f.r0.1 d.f.r0.2
  | 2 => setIs d.f.r0.1 d.f.r0.2 ++ setIs d.f.r1.1 d.f.r1.2
  | 3 => setIs d.f.r0.1 d.f.r0.2 ++ (setIs d.f.r1.1 d.f.r1.2 ++ setIs d.f.r2.1 d.f.r2.2)
  | _ => setIs d.f.r0.1 d.f.r0.2 ++ (setIs d.f.r1.1 d.f.r1.2 ++ (setIs d.f.r2.1 d.f.r2.2 ++ setIs d.f.r3.1 d.f.r3.2))
theorem rIt_len (d : Dc) (i : Nat) : (rIt d i).length ≤ 100 := by
  have h0 := setIs_len d.f.r0.1 d.f.r0.2
  have h1 := setIs_len d.f.r1.1 d.f.r1.2
  have h2 := setIs_len d.f.r2.1 d.f.r2.2
  have h3 := setIs_len d.f.r3.1 d.f.r3.2
  unfold rIt
  split <;> first | (simp; done) | omega | (simp only [List.length_append]; omega)
set_option maxHeartbeats 3200000 in
set_option maxRecDepth 100000 in
theorem layrules_any {W0 w : World} {b : Nat} {its : List (Bool × List UInt8)} (h : Wr W0 w b 84 its) (hn : its.length ≤ 9000) (d : Dc) (z : Sl) (hv : DcAt W0 z d) (ho : DcOk d) :
    Calls Tryz.prog 77 #[.pointer (some ⟨b, 0, none⟩), docV d z] w (WPost W0 w b 84 (its ++ itsF 1 d.f)) := by
  have hlt := h.lt
  obtain ⟨W1, hW1, hB1, hS1⟩ := doc_new w d z 46
  have hW := Box.mk (h.below hB1.out)
  have hK : Box (Kp b w W1) := ⟨Kp.below hB1.out⟩
  replace hS1 := Box.mk hS1
  have hne : Box (w.heap.size ≠ b) := ⟨by omega⟩
  obtain ⟨s0, s1, s2, s3, s4, s5, s6, s7, s8, s9, s10, s11, s12, s13, s14, s15, s16, s17, s18, s19, s20⟩ := doc_cells hS1.out
  have hvB := Box.mk hv
  have hoB := Box.mk ho
  have hrl := rIt_len d
  have hW0 : Box (Wr W0 W1 b 84 (its ++ rIt d 0)) := ⟨hW.out.eq (by simp [rIt])⟩
  clear h hW hv ho s0 s1 s2
  show Calls _ _ #[.pointer (some ⟨b, 0, none⟩), .agg (docL _ z).toArray] w _
  go_enter Tryz.func77, Tryz.ntmps77
  go_wp2_with fail
  clear s3 s4 s5 s6 s7 s8 s9 s10 s11 s12 s13 s14 s15 s16 s17 s18 s19 s20
  go_loopw [8] (fun q wr => ∃ i : Nat, i ≤ 4 ∧ q = .int .i64 (i : Int) ∧ Box (Wr W0 wr b 84 (its ++ rIt d i)) ∧ Box (Kp b w wr) ∧ Box (Pk.Blk wr w.heap.size (docL d z) 46)) (fun q _ => 4 - (intOf q).toNat)
  case atStart => exact ⟨0, by omega, rfl, hW0, hK, hS1⟩
  case round =>
    clear hW0 hK hS1
    obtain ⟨i, hi, rfl, hA, hK, hS1⟩ := hrel
    rcases (show i = 0 ∨ i = 1 ∨ i = 2 ∨ i = 3 ∨ i = 4 by omega) with rfl | rfl | rfl | rfl | rfl
    · clear hi
      have hlt := hA.out.lt
      obtain ⟨Wq, hWq⟩ : ∃ W, wr.alloc (.cells #[(.slice z.a0.1 d.f.r0.1.length z.a0.2), .int .i64 d.f.r0.2] 42) = W := ⟨_, rfl⟩
      have hBq : Below wr.heap.size wr Wq := by rw [← hWq]; exact bel_alloc _ _
      have hW := Box.mk (hA.out.below hBq)
      have hrli := hrl 0
      replace hK := Box.mk (hK.out.trans (Kp.below hBq))
      have hS2 := Box.mk (blk_here hS1.out hBq)
      have k0 : Wq.cell? ⟨wr.heap.size, 0, none⟩ = some (.slice z.a0.1 d.f.r0.1.length z.a0.2) := by rw [← hWq]; exact (Pk.Blk.new wr [(.slice z.a0.1 d.f.r0.1.length z.a0.2), .int .i64 d.f.r0.2] 42).cell 0
      have k1 : Wq.cell? ⟨wr.heap.size, 1, none⟩ = some (.int .i64 d.f.r0.2) := by rw [← hWq]; exact (Pk.Blk.new wr [(.slice z.a0.1 d.f.r0.1.length z.a0.2), .int .i64 d.f.r0.2] 42).cell 1
      have hix := idx_0 (.slice z.a0.1 d.f.r0.1.length z.a0.2) (.int .i64 d.f.r0.2) (.slice z.a1.1 d.f.r1.1.length z.a1.2) (.int .i64 d.f.r1.2) (.slice z.a2.1 d.f.r2.1.length z.a2.2) (.int .i64 d.f.r2.2) (.slice z.a3.1 d.f.r3.1.length z.a3.2) (.int .i64 d.f.r3.2) wr
      clear hBq hS1 hA hlt
      have hq := Box.mk (w_set hW.out (by rw [List.length_append]; omega) d.f.r0 z.a0 hvB.out.p0 hoB.out.l0)
      go_wp2_with fail
      refine hq.out.mono ?_
      clear hq
      rintro e v3 ⟨rfl, hw, hk⟩
      replace hW := Box.mk hw
      replace hK := Box.mk (hK.out.trans hk)
      have hS3 := Box.mk (hk _ _ _ (by decide) hne.out hS2.out)
      clear hw hk hS2 
      clear hix
      go_wp2_with fail
      exact ⟨⟨1, by omega, rfl, ⟨hW.out.eq (by simp [rIt])⟩, hK, hS3⟩, by simp [intOf]⟩
    · clear hi
      have hlt := hA.out.lt
      obtain ⟨Wq, hWq⟩ : ∃ W, wr.alloc (.cells #[(.slice z.a1.1 d.f.r1.1.length z.a1.2), .int .i64 d.f.r1.2] 42) = W := ⟨_, rfl⟩
      have hBq : Below wr.heap.size wr Wq := by rw [← hWq]; exact bel_alloc _ _
      have hW := Box.mk (hA.out.below hBq)
      have hrli := hrl 1
      replace hK := Box.mk (hK.out.trans (Kp.below hBq))
      have hS2 := Box.mk (blk_here hS1.out hBq)
      have k0 : Wq.cell? ⟨wr.heap.size, 0, none⟩ = some (.slice z.a1.1 d.f.r1.1.length z.a1.2) := by rw [← hWq]; exact (Pk.Blk.new wr [(.slice z.a1.1 d.f.r1.1.length z.a1.2), .int .i64 d.f.r1.2] 42).cell 0
      have k1 : Wq.cell? ⟨wr.heap.size, 1, none⟩ = some (.int .i64 d.f.r1.2) := by rw [← hWq]; exact (Pk.Blk.new wr [(.slice z.a1.1 d.f.r1.1.length z.a1.2), .int .i64 d.f.r1.2] 42).cell 1
      have hix := idx_1 (.slice z.a0.1 d.f.r0.1.length z.a0.2) (.int .i64 d.f.r0.2) (.slice z.a1.1 d.f.r1.1.length z.a1.2) (.int .i64 d.f.r1.2) (.slice z.a2.1 d.f.r2.1.length z.a2.2) (.int .i64 d.f.r2.2) (.slice z.a3.1 d.f.r3.1.length z.a3.2) (.int .i64 d.f.r3.2) wr
      clear hBq hS1 hA hlt
      have hq := Box.mk (w_set hW.out (by rw [List.length_append]; omega) d.f.r1 z.a1 hvB.out.p1 hoB.out.l1)
      go_wp2_with fail
      refine hq.out.mono ?_
      clear hq
      rintro e v3 ⟨rfl, hw, hk⟩
      replace hW := Box.mk hw
      replace hK := Box.mk (hK.out.trans hk)
      have hS3 := Box.mk (hk _ _ _ (by decide) hne.out hS2.out)
      clear hw hk hS2 
      clear hix
      go_wp2_with fail
      exact ⟨⟨2, by omega, rfl, ⟨hW.out.eq (by simp [rIt])⟩, hK, hS3⟩, by simp [intOf]⟩
    · clear hi
      have hlt := hA.out.lt
      obtain ⟨Wq, hWq⟩ : ∃ W, wr.alloc (.cells #[(.slice z.a2.1 d.f.r2.1.length z.a2.2), .int .i64 d.f.r2.2] 42) = W := ⟨_, rfl⟩
      have hBq : Below wr.heap.size wr Wq := by rw [← hWq]; exact bel_alloc _ _
      have hW := Box.mk (hA.out.below hBq)
      have hrli := hrl 2
      replace hK := Box.mk (hK.out.trans (Kp.below hBq))
      have hS2 := Box.mk (blk_here hS1.out hBq)
      have k0 : Wq.cell? ⟨wr.heap.size, 0, none⟩ = some (.slice z.a2.1 d.f.r2.1.length z.a2.2) := by rw [← hWq]; exact (Pk.Blk.new wr [(.slice z.a2.1 d.f.r2.1.length z.a2.2), .int .i64 d.f.r2.2] 42).cell 0
      have k1 : Wq.cell? ⟨wr.heap.size, 1, none⟩ = some (.int .i64 d.f.r2.2) := by rw [← hWq]; exact (Pk.Blk.new wr [(.slice z.a2.1 d.f.r2.1.length z.a2.2), .int .i64 d.f.r2.2] 42).cell 1
      have hix := idx_2 (.slice z.a0.1 d.f.r0.1.length z.a0.2) (.int .i64 d.f.r0.2) (.slice z.a1.1 d.f.r1.1.length z.a1.2) (.int .i64 d.f.r1.2) (.slice z.a2.1 d.f.r2.1.length z.a2.2) (.int .i64 d.f.r2.2) (.slice z.a3.1 d.f.r3.1.length z.a3.2) (.int .i64 d.f.r3.2) wr
      clear hBq hS1 hA hlt
      have hq := Box.mk (w_set hW.out (by rw [List.length_append]; omega) d.f.r2 z.a2 hvB.out.p2 hoB.out.l2)
      go_wp2_with fail
      refine hq.out.mono ?_
      clear hq
      rintro e v3 ⟨rfl, hw, hk⟩
      replace hW := Box.mk hw
      replace hK := Box.mk (hK.out.trans hk)
      have hS3 := Box.mk (hk _ _ _ (by decide) hne.out hS2.out)
      clear hw hk hS2 
      clear hix
      go_wp2_with fail
      exact ⟨⟨3, by omega, rfl, ⟨hW.out.eq (by simp [rIt])⟩, hK, hS3⟩, by simp [intOf]⟩
    · clear hi
      have hlt := hA.out.lt
      obtain ⟨Wq, hWq⟩ : ∃ W, wr.alloc (.cells #[(.slice z.a3.1 d.f.r3.1.length z.a3.2), .int .i64 d.f.r3.2] 42) = W := ⟨_, rfl⟩
      have hBq : Below wr.heap.size wr Wq := by rw [← hWq]; exact bel_alloc _ _
      have hW := Box.mk (hA.out.below hBq)
      have hrli := hrl 3
      replace hK := Box.mk (hK.out.trans (Kp.below hBq))
      have hS2 := Box.mk (blk_here hS1.out hBq)
      have k0 : Wq.cell? ⟨wr.heap.size, 0, none⟩ = some (.slice z.a3.1 d.f.r3.1.length z.a3.2) := by rw [← hWq]; exact (Pk.Blk.new wr [(.slice z.a3.1 d.f.r3.1.length z.a3.2), .int .i64 d.f.r3.2] 42).cell 0
      have k1 : Wq.cell? ⟨wr.heap.size, 1, none⟩ = some (.int .i64 d.f.r3.2) := by rw [← hWq]; exact (Pk.Blk.new wr [(.slice z.a3.1 d.f.r3.1.length z.a3.2), .int .i64 d.f.r3.2] 42).cell 1
      have hix := idx_3 (.slice z.a0.1 d.f.r0.1.length z.a0.2) (.int .i64 d.f.r0.2) (.slice z.a1.1 d.f.r1.1.length z.a1.2) (.int .i64 d.f.r1.2) (.slice z.a2.1 d.f.r2.1.length z.a2.2) (.int .i64 d.f.r2.2) (.slice z.a3.1 d.f.r3.1.length z.a3.2) (.int .i64 d.f.r3.2) wr
      clear hBq hS1 hA hlt
      have hq := Box.mk (w_set hW.out (by rw [List.length_append]; omega) d.f.r3 z.a3 hvB.out.p3 hoB.out.l3)
      go_wp2_with fail
      refine hq.out.mono ?_
      clear hq
      rintro e v3 ⟨rfl, hw, hk⟩
      replace hW := Box.mk hw
      replace hK := Box.mk (hK.out.trans hk)
      have hS3 := Box.mk (hk _ _ _ (by decide) hne.out hS2.out)
      clear hw hk hS2 
      clear hix
      go_wp2_with fail
      exact ⟨⟨4, by omega, rfl, ⟨hW.out.eq (by simp [rIt])⟩, hK, hS3⟩, by simp [intOf]⟩
    · clear hi
      have hW := hA
      have hrli := hrl 4
      obtain ⟨s0, s1, s2, s3, s4, s5, s6, s7, s8, s9, s10, s11, s12, s13, s14, s15, s16, s17, s18, s19, s20⟩ := doc_cells hS1.out
      clear hA
      have hq := Box.mk (w_set hW.out (by rw [List.length_append]; omega) d.f.wt z.aw hvB.out.pw hoB.out.lw)
      go_wp2_with fail
      refine hq.out.mono ?_
      clear hq
      rintro e v2 ⟨rfl, hw, hk⟩
      replace hW := Box.mk hw
      replace hK := Box.mk (hK.out.trans hk)
      have hS2 := Box.mk (hk _ _ _ (by decide) hne.out hS1.out)
      clear hw hk hS1 s0 s1 s2 s3 s4 s5 s6 s7 s8 s9 s10 s11 s12 s13 s14 s15 s16 s17 s18 s19 s20
      obtain ⟨s0, s1, s2, s3, s4, s5, s6, s7, s8, s9, s10, s11, s12, s13, s14, s15, s16, s17, s18, s19, s20⟩ := doc_cells hS2.out
      obtain ⟨pre, hpre⟩ : ∃ s, (its ++ rIt d 4) ++ setIs d.f.wt.1 d.f.wt.2 = s := ⟨_, rfl⟩
      have hpl : pre.length ≤ 9300 := by
        have := setIs_len d.f.wt.1 d.f.wt.2
        rw [← hpre, List.length_append, List.length_append]; omega
      have hnx : Box (its ++ itsF 1 d.f = (pre ++ [idI d.f.lg]) ++ [txI d.f.og]) := ⟨by rw [← hpre]; simp [itsF, rIt]⟩
      rw [hpre] at hW
      clear hpre
      have hq := Box.mk (w_hash hW.out (by first | omega | (simp only [List.length_append, List.length_cons, List.length_nil]; omega)) d.f.lg)
      go_wp2_with fail
      refine hq.out.mono ?_
      clear hq
      rintro e v3 ⟨rfl, hw, hk⟩
      replace hW := Box.mk hw
      replace hK := Box.mk (hK.out.trans hk)
      have hS3 := Box.mk (hk _ _ _ (by decide) hne.out hS2.out)
      clear hw hk hS2 s0 s1 s2 s3 s4 s5 s6 s7 s8 s9 s10 s11 s12 s13 s14 s15 s16 s17 s18 s19 s20
      obtain ⟨s0, s1, s2, s3, s4, s5, s6, s7, s8, s9, s10, s11, s12, s13, s14, s15, s16, s17, s18, s19, s20⟩ := doc_cells hS3.out
      have hq := Box.mk (w_text hW.out (by first | omega | (simp only [List.length_append, List.length_cons, List.length_nil]; omega)) d.f.og)
      go_wp2_with fail
      refine hq.out.mono ?_
      clear hq
      rintro e v4 ⟨rfl, hw, hk⟩
      replace hW := Box.mk hw
      replace hK := Box.mk (hK.out.trans hk)
      have hS4 := Box.mk (hk _ _ _ (by decide) hne.out hS3.out)
      clear hw hk hS3 s0 s1 s2 s3 s4 s5 s6 s7 s8 s9 s10 s11 s12 s13 s14 s15 s16 s17 s18 s19 s20
      obtain ⟨s0, s1, s2, s3, s4, s5, s6, s7, s8, s9, s10, s11, s12, s13, s14, s15, s16, s17, s18, s19, s20⟩ := doc_cells hS4.out
      rw [← hnx.out] at hW
      go_wp2_with fail
      go_returns
      exact ⟨rfl, hW.out, hK.out⟩
set_option maxHeartbeats 3200000 in
set_option maxRecDepth 100000 in
theorem layfields_1 {W0 w : World} {b : Nat} {its : List (Bool × List UInt8)} (h : Wr W0 w b 84 its) (hn : its.length ≤ 8000) (d : Dc) (z : Sl) (hv : DcAt W0 z d) (ho : DcOk d) (hl : d.f.ls.length ≤ 64) (hk : d.k = 1) :
    Calls Tryz.prog 44 #[.pointer (some ⟨b, 0, none⟩), docV d z] w (WPost W0 w b 84 (its ++ itsF d.k d.f)) := by
  obtain ⟨k, v, x, f⟩ := d
  dsimp only at hk hl
  subst hk
  have hlt := h.lt
  obtain ⟨W1, hW1, hB1, hS1⟩ := doc_new w ⟨1, v, x, f⟩ z 46
  have hW := Box.mk (h.below hB1.out)
  have hK : Box (Kp b w W1) := ⟨Kp.below hB1.out⟩
  replace hS1 := Box.mk hS1
  have hne : Box (w.heap.size ≠ b) := ⟨by omega⟩
  obtain ⟨s0, s1, s2, s3, s4, s5, s6, s7, s8, s9, s10, s11, s12, s13, s14, s15, s16, s17, s18, s19, s20⟩ := doc_cells hS1.out
  dsimp only at s0 s1 s2 s3 s4 s5 s6 s7 s8 s9 s10 s11 s12 s13 s14 s15 s16 s17 s18 s19 s20
  have hvB := Box.mk hv
  have hoB := Box.mk ho
  clear h hv ho
  show Calls _ _ #[.pointer (some ⟨b, 0, none⟩), .agg (docL _ z).toArray] w _
  go_enter Tryz.func44, Tryz.ntmps44
  have hq := Box.mk (layrules_any hW.out (by omega) ⟨1, v, x, f⟩ z hvB.out hoB.out)
  go_wp2_with (refine wpList_loadG (by rfl) 46 (.tmp 3) rfl w.heap.size 0 rfl (docL ⟨1, v, x, f⟩ z) _ (blk_range hS1.out) Tryz.underlying46 rfl (doc_size _ _) ?_)
  refine hq.out.mono ?_
  clear hq
  rintro e v2 ⟨rfl, hw, hk⟩
  replace hW := Box.mk hw
  replace hK := Box.mk (hK.out.trans hk)
  have hS2 := Box.mk (hk _ _ _ (by decide) hne.out hS1.out)
  clear hw hk hS1 s0 s1 s2 s3 s4 s5 s6 s7 s8 s9 s10 s11 s12 s13 s14 s15 s16 s17 s18 s19 s20
  obtain ⟨s0, s1, s2, s3, s4, s5, s6, s7, s8, s9, s10, s11, s12, s13, s14, s15, s16, s17, s18, s19, s20⟩ := doc_cells hS2.out
  go_wp2_with fail
  go_returns
  exact ⟨rfl, hW.out.eq (by simp [itsF]), hK.out⟩
set_option maxHeartbeats 3200000 in
set_option maxRecDepth 100000 in
theorem layfields_2 {W0 w : World} {b : Nat} {its : List (Bool × List UInt8)} (h : Wr W0 w b 84 its) (hn : its.length ≤ 8000) (d : Dc) (z : Sl) (hv : DcAt W0 z d) (ho : DcOk d) (hl : d.f.ls.length ≤ 64) (hk : d.k = 2) :
    Calls Tryz.prog 44 #[.pointer (some ⟨b, 0, none⟩), docV d z] w (WPost W0 w b 84 (its ++ itsF d.k d.f)) := by
  obtain ⟨k, v, x, f⟩ := d
  dsimp only at hk hl
  subst hk
  have hlt := h.lt
  obtain ⟨W1, hW1, hB1, hS1⟩ := doc_new w ⟨2, v, x, f⟩ z 46
  have hW := Box.mk (h.below hB1.out)
  have hK : Box (Kp b w W1) := ⟨Kp.below hB1.out⟩
  replace hS1 := Box.mk hS1
  have hne : Box (w.heap.size ≠ b) := ⟨by omega⟩
  obtain ⟨s0, s1, s2, s3, s4, s5, s6, s7, s8, s9, s10, s11, s12, s13, s14, s15, s16, s17, s18, s19, s20⟩ := doc_cells hS1.out
  dsimp only at s0 s1 s2 s3 s4 s5 s6 s7 s8 s9 s10 s11 s12 s13 s14 s15 s16 s17 s18 s19 s20
  have hvB := Box.mk hv
  have hoB := Box.mk ho
  clear h hv ho
  show Calls _ _ #[.pointer (some ⟨b, 0, none⟩), .agg (docL _ z).toArray] w _
  go_enter Tryz.func44, Tryz.ntmps44
  have hq := Box.mk (laylist_any hW.out (by omega) f.ls z.al.1 z.al.2 hvB.out.pl hl)
  go_wp2_with fail
  refine hq.out.mono ?_
  clear hq
  rintro e v2 ⟨rfl, hw, hk⟩
  replace hW := Box.mk hw
  replace hK := Box.mk (hK.out.trans hk)
  have hS2 := Box.mk (hk _ _ _ (by decide) hne.out hS1.out)
  clear hw hk hS1 s0 s1 s2 s3 s4 s5 s6 s7 s8 s9 s10 s11 s12 s13 s14 s15 s16 s17 s18 s19 s20
  obtain ⟨s0, s1, s2, s3, s4, s5, s6, s7, s8, s9, s10, s11, s12, s13, s14, s15, s16, s17, s18, s19, s20⟩ := doc_cells hS2.out
  go_wp2_with fail
  go_returns
  exact ⟨rfl, hW.out.eq (by simp [itsF]), hK.out⟩
set_option maxHeartbeats 3200000 in
set_option maxRecDepth 100000 in
theorem layfields_3 {W0 w : World} {b : Nat} {its : List (Bool × List UInt8)} (h : Wr W0 w b 84 its) (hn : its.length ≤ 8000) (d : Dc) (z : Sl) (hv : DcAt W0 z d) (ho : DcOk d) (hl : d.f.ls.length ≤ 64) (hk : d.k = 3) :
    Calls Tryz.prog 44 #[.pointer (some ⟨b, 0, none⟩), docV d z] w (WPost W0 w b 84 (its ++ itsF d.k d.f)) := by
  obtain ⟨k, v, x, f⟩ := d
  dsimp only at hk hl
  subst hk
  have hlt := h.lt
  obtain ⟨W1, hW1, hB1, hS1⟩ := doc_new w ⟨3, v, x, f⟩ z 46
  have hW := Box.mk (h.below hB1.out)
  have hK : Box (Kp b w W1) := ⟨Kp.below hB1.out⟩
  replace hS1 := Box.mk hS1
  have hne : Box (w.heap.size ≠ b) := ⟨by omega⟩
  obtain ⟨s0, s1, s2, s3, s4, s5, s6, s7, s8, s9, s10, s11, s12, s13, s14, s15, s16, s17, s18, s19, s20⟩ := doc_cells hS1.out
  dsimp only at s0 s1 s2 s3 s4 s5 s6 s7 s8 s9 s10 s11 s12 s13 s14 s15 s16 s17 s18 s19 s20
  have hvB := Box.mk hv
  have hoB := Box.mk ho
  clear h hv ho
  show Calls _ _ #[.pointer (some ⟨b, 0, none⟩), .agg (docL _ z).toArray] w _
  go_enter Tryz.func44, Tryz.ntmps44
  have hq := Box.mk (laylink_any hW.out (by omega) ⟨3, v, x, f⟩ z)
  go_wp2_with (refine wpList_loadG (by rfl) 46 (.tmp 3) rfl w.heap.size 0 rfl (docL ⟨3, v, x, f⟩ z) _ (blk_range hS1.out) Tryz.underlying46 rfl (doc_size _ _) ?_)
  refine hq.out.mono ?_
  clear hq
  rintro e v2 ⟨rfl, hw, hk⟩
  replace hW := Box.mk hw
  replace hK := Box.mk (hK.out.trans hk)
  have hS2 := Box.mk (hk _ _ _ (by decide) hne.out hS1.out)
  clear hw hk hS1 s0 s1 s2 s3 s4 s5 s6 s7 s8 s9 s10 s11 s12 s13 s14 s15 s16 s17 s18 s19 s20
  obtain ⟨s0, s1, s2, s3, s4, s5, s6, s7, s8, s9, s10, s11, s12, s13, s14, s15, s16, s17, s18, s19, s20⟩ := doc_cells hS2.out
  dsimp only at hW s0 s1 s2 s3 s4 s5 s6 s7 s8 s9 s10 s11 s12 s13 s14 s15 s16 s17 s18 s19 s20
  have hq := Box.mk (laypoint_any hW.out (by first | omega | (simp only [List.length_append, List.length_cons, List.length_nil]; omega)) f.pt)
  unfold ckV at hq
  go_wp2_with fail
  refine hq.out.mono ?_
  clear hq
  rintro e v3 ⟨rfl, hw, hk⟩
  replace hW := Box.mk hw
  replace hK := Box.mk (hK.out.trans hk)
  have hS3 := Box.mk (hk _ _ _ (by decide) hne.out hS2.out)
  clear hw hk hS2 s0 s1 s2 s3 s4 s5 s6 s7 s8 s9 s10 s11 s12 s13 s14 s15 s16 s17 s18 s19 s20
  obtain ⟨s0, s1, s2, s3, s4, s5, s6, s7, s8, s9, s10, s11, s12, s13, s14, s15, s16, s17, s18, s19, s20⟩ := doc_cells hS3.out
  go_wp2_with fail
  go_returns
  exact ⟨rfl, hW.out.eq (by simp [itsF]), hK.out⟩
set_option maxHeartbeats 3200000 in
set_option maxRecDepth 100000 in
theorem layfields_4 {W0 w : World} {b : Nat} {its : List (Bool × List UInt8)} (h : Wr W0 w b 84 its) (hn : its.length ≤ 8000) (d : Dc) (z : Sl) (hv : DcAt W0 z d) (ho : DcOk d) (hl : d.f.ls.length ≤ 64) (hk : d.k = 4) :
    Calls Tryz.prog 44 #[.pointer (some ⟨b, 0, none⟩), docV d z] w (WPost W0 w b 84 (its ++ itsF d.k d.f)) := by
  obtain ⟨k, v, x, f⟩ := d
  dsimp only at hk hl
  subst hk
  have hlt := h.lt
  obtain ⟨W1, hW1, hB1, hS1⟩ := doc_new w ⟨4, v, x, f⟩ z 46
  have hW := Box.mk (h.below hB1.out)
  have hK : Box (Kp b w W1) := ⟨Kp.below hB1.out⟩
  replace hS1 := Box.mk hS1
  have hne : Box (w.heap.size ≠ b) := ⟨by omega⟩
  obtain ⟨s0, s1, s2, s3, s4, s5, s6, s7, s8, s9, s10, s11, s12, s13, s14, s15, s16, s17, s18, s19, s20⟩ := doc_cells hS1.out
  dsimp only at s0 s1 s2 s3 s4 s5 s6 s7 s8 s9 s10 s11 s12 s13 s14 s15 s16 s17 s18 s19 s20
  have hvB := Box.mk hv
  have hoB := Box.mk ho
  clear h hv ho
  show Calls _ _ #[.pointer (some ⟨b, 0, none⟩), .agg (docL _ z).toArray] w _
  go_enter Tryz.func44, Tryz.ntmps44
  have hq := Box.mk (laylink_any hW.out (by omega) ⟨4, v, x, f⟩ z)
  go_wp2_with (refine wpList_loadG (by rfl) 46 (.tmp 3) rfl w.heap.size 0 rfl (docL ⟨4, v, x, f⟩ z) _ (blk_range hS1.out) Tryz.underlying46 rfl (doc_size _ _) ?_)
  refine hq.out.mono ?_
  clear hq
  rintro e v2 ⟨rfl, hw, hk⟩
  replace hW := Box.mk hw
  replace hK := Box.mk (hK.out.trans hk)
  have hS2 := Box.mk (hk _ _ _ (by decide) hne.out hS1.out)
  clear hw hk hS1 s0 s1 s2 s3 s4 s5 s6 s7 s8 s9 s10 s11 s12 s13 s14 s15 s16 s17 s18 s19 s20
  obtain ⟨s0, s1, s2, s3, s4, s5, s6, s7, s8, s9, s10, s11, s12, s13, s14, s15, s16, s17, s18, s19, s20⟩ := doc_cells hS2.out
  go_wp2_with fail
  go_returns
  exact ⟨rfl, hW.out.eq (by simp [itsF]), hK.out⟩
theorem layfields_any {W0 w : World} {b : Nat} {its : List (Bool × List UInt8)} (h : Wr W0 w b 84 its) (hn : its.length ≤ 8000) (d : Dc) (z : Sl) (hv : DcAt W0 z d) (ho : DcOk d) (hl : d.f.ls.length ≤ 64) (hk : d.k = 1 ∨ d.k = 2 ∨ d.k = 3 ∨ d.k = 4) :
    Calls Tryz.prog 44 #[.pointer (some ⟨b, 0, none⟩), docV d z] w (WPost W0 w b 84 (its ++ itsF d.k d.f)) := by
  rcases hk with hk | hk | hk | hk
  · exact layfields_1 h hn d z hv ho hl hk
  · exact layfields_2 h hn d z hv ho hl hk
  · exact layfields_3 h hn d z hv ho hl hk
  · exact layfields_4 h hn d z hv ho hl hk
def encR (d : Dc) : Value := .tuple #[.string (encV d).1, .int .i64 (encV d).2]
theorem chk_len {d : Dc} (h : chkD d = true) : d.f.ls.length ≤ 64 ∧ (d.k = 1 ∨ d.k = 2 ∨ d.k = 3 ∨ d.k = 4) := by
  have h0 := h
  simp only [chkD, Bool.and_eq_true, decide_eq_true_iff] at h
  obtain ⟨h1, h2⟩ := fld_ok h.2.2
  refine ⟨?_, h1⟩
  have h3 := h.2.2
  unfold fldB at h3
  rcases h1 with h1 | h1 | h1 | h1 <;> rw [h1] at h3
  · rw [if_pos rfl] at h3
    simp only [noLs, Bool.and_eq_true, decide_eq_true_iff] at h3
    omega
  · rw [if_neg (by decide), if_pos rfl] at h3
    simp only [listB, Bool.and_eq_true, decide_eq_true_iff] at h3
    omega
  · rw [if_neg (by decide), if_neg (by decide), if_pos rfl] at h3
    simp only [noLs, Bool.and_eq_true, decide_eq_true_iff] at h3
    omega
  · rw [if_neg (by decide), if_neg (by decide), if_neg (by decide), if_pos rfl] at h3
    simp only [noLs, Bool.and_eq_true, decide_eq_true_iff] at h3
    omega
set_option maxHeartbeats 3200000 in
set_option maxRecDepth 100000 in
theorem encode_any (d : Dc) (z : Sl) (B : Nat) (w : World) (hL : NL B w) (hB : B ≤ w.heap.size) (hv : DcAt w z d) (ho : DcOk d) :
    Calls Tryz.prog 11 #[docV d z] w fun e w' => e = .returned (encR d) ∧ Below w.heap.size w w' := by
  obtain ⟨W1, hW1, hB1, hS1⟩ := doc_new w d z 46
  replace hS1 := Box.mk hS1
  have hC := mcheck_any d z B W1 (hL.here hB hB1.out) (by have := hB1.out.size; omega) (hv.here hB1.out) ho
  have hvB := Box.mk hv
  have hoB := Box.mk ho
  clear hL hB hv ho
  rcases Bool.eq_false_or_eq_true (chkD d) with hc | hc
  · have eE : chkDE d = 0 := by unfold chkDE; rw [hc]; rfl
    rw [eE] at hC
    have eR : encR d = .tuple #[.string (Pk.btx (layD d)), .int .i64 0] := by unfold encR encV; rw [hc]; rfl
    rw [eR]
    obtain ⟨hl, hk⟩ := chk_len hc
    have hfit := Box.mk (fit_doc hc)
    replace hl := Box.mk hl
    replace hk := Box.mk hk
    clear eE eR hc
    show Calls _ _ #[.agg (docL _ z).toArray] w _
    go_enter Tryz.func11, Tryz.ntmps11
    go_wp2_with (refine wpList_loadG (by rfl) 46 (.tmp 1) rfl w.heap.size 0 rfl (docL d z) _ (blk_range hS1.out) Tryz.underlying46 rfl (doc_size _ _) ?_)
    refine hC.mono ?_
    clear hC
    rintro e w1 ⟨rfl, hb⟩
    have hB2 := Box.mk (mono_bel hB1.out hb (Nat.le_refl _))
    have hS2 := doc_here hS1 hb
    clear hb hS1 hB1
    have hlt := hS2.out.lt
    obtain ⟨W2, hW2⟩ : ∃ W2, w1.alloc (.cells #[.slice none 0 0, .bool false] 84) = W2 := ⟨_, rfl⟩
    have hW : Box (Wr w1 W2 w1.heap.size 84 []) := ⟨by rw [← hW2]; exact wr_new _ _⟩
    have hS3 : Box (Pk.Blk W2 w.heap.size (docL d z) 46) := ⟨by rw [← hW2]; exact blk_here hS2.out (bel_alloc _ _)⟩
    have hK : Box (Kp w1.heap.size w1 W2) := ⟨by rw [← hW2]; exact Kp.below (bel_alloc _ _)⟩
    have hne : Box (w.heap.size ≠ w1.heap.size) := ⟨by omega⟩
    have hv1 := Box.mk (hvB.out.here hB2.out)
    obtain ⟨bw, hbw⟩ : ∃ bw, w1.heap.size = bw := ⟨_, rfl⟩
    rw [hbw] at hW hK hne
    obtain ⟨s0, s1, s2, s3, s4, s5, s6, s7, s8, s9, s10, s11, s12, s13, s14, s15, s16, s17, s18, s19, s20⟩ := doc_cells hS3.out
    clear hS2 hlt hvB
    have hq := Box.mk (w_byte hW.out (by simp) d.k)
    go_wp2_with fail
    refine hq.out.mono ?_
    clear hq
    rintro e v4 ⟨rfl, hw, hk⟩
    replace hW := Box.mk hw
    replace hK := Box.mk (hK.out.trans hk)
    have hS4 := Box.mk (hk _ _ _ (by decide) hne.out hS3.out)
    clear hw hk hS3 s0 s1 s2 s3 s4 s5 s6 s7 s8 s9 s10 s11 s12 s13 s14 s15 s16 s17 s18 s19 s20
    obtain ⟨s0, s1, s2, s3, s4, s5, s6, s7, s8, s9, s10, s11, s12, s13, s14, s15, s16, s17, s18, s19, s20⟩ := doc_cells hS4.out
    have hq := Box.mk (w_two hW.out (by simp) d.v)
    go_wp2_with fail
    refine hq.out.mono ?_
    clear hq
    rintro e v5 ⟨rfl, hw, hk⟩
    replace hW := Box.mk hw
    replace hK := Box.mk (hK.out.trans hk)
    have hS5 := Box.mk (hk _ _ _ (by decide) hne.out hS4.out)
    clear hw hk hS4 s0 s1 s2 s3 s4 s5 s6 s7 s8 s9 s10 s11 s12 s13 s14 s15 s16 s17 s18 s19 s20
    obtain ⟨s0, s1, s2, s3, s4, s5, s6, s7, s8, s9, s10, s11, s12, s13, s14, s15, s16, s17, s18, s19, s20⟩ := doc_cells hS5.out
    have hq := Box.mk (w_eight hW.out (by simp) d.x)
    go_wp2_with fail
    refine hq.out.mono ?_
    clear hq
    rintro e v6 ⟨rfl, hw, hk⟩
    replace hW := Box.mk hw
    replace hK := Box.mk (hK.out.trans hk)
    have hS6 := Box.mk (hk _ _ _ (by decide) hne.out hS5.out)
    clear hw hk hS5 s0 s1 s2 s3 s4 s5 s6 s7 s8 s9 s10 s11 s12 s13 s14 s15 s16 s17 s18 s19 s20
    obtain ⟨s0, s1, s2, s3, s4, s5, s6, s7, s8, s9, s10, s11, s12, s13, s14, s15, s16, s17, s18, s19, s20⟩ := doc_cells hS6.out
    have hq := Box.mk (layfields_any hW.out (by simp) d z hv1.out hoB.out hl.out hk.out)
    go_wp2_with (refine wpList_loadG (by rfl) 46 (.tmp 1) rfl w.heap.size 0 rfl (docL d z) _ (blk_range hS6.out) Tryz.underlying46 rfl (doc_size _ _) ?_)
    refine hq.out.mono ?_
    clear hq
    rintro e v7 ⟨rfl, hw, hk⟩
    replace hW := Box.mk hw
    replace hK := Box.mk (hK.out.trans hk)
    have hS7 := Box.mk (hk _ _ _ (by decide) hne.out hS6.out)
    clear hw hk hS6 s0 s1 s2 s3 s4 s5 s6 s7 s8 s9 s10 s11 s12 s13 s14 s15 s16 s17 s18 s19 s20
    obtain ⟨s0, s1, s2, s3, s4, s5, s6, s7, s8, s9, s10, s11, s12, s13, s14, s15, s16, s17, s18, s19, s20⟩ := doc_cells hS7.out
    have hW5 := hW.out.eq (show _ = itsD d by simp [itsD])
    have hq := w_bytes hW5 hfit.out
    have hB5 := Box.mk (mono_bel hB2.out hW5.bel (Nat.le_refl _))
    clear hW hW5 s0 s1 s2 s3 s4 s5 s6 s7 s8 s9 s10 s11 s12 s13 s14 s15 s16 s17 s18 s19 s20
    go_wp2_with fail
    refine hq.mono ?_
    clear hq
    rintro e w5 ⟨rfl, rfl⟩
    go_wp2_with fail
    go_returns
    exact ⟨rfl, hB5.out⟩
  · have eE : chkDE d = 1 := by unfold chkDE; rw [hc]; rfl
    rw [eE] at hC
    have eR : encR d = .tuple #[.string ⟨#[]⟩, .int .i64 1] := by unfold encR encV; rw [hc]; rfl
    rw [eR]
    clear eE eR hc
    show Calls _ _ #[.agg (docL _ z).toArray] w _
    go_enter Tryz.func11, Tryz.ntmps11
    go_wp2_with (refine wpList_loadG (by rfl) 46 (.tmp 1) rfl w.heap.size 0 rfl (docL d z) _ (blk_range hS1.out) Tryz.underlying46 rfl (doc_size _ _) ?_)
    refine hC.mono ?_
    clear hC
    rintro e w1 ⟨rfl, hb⟩
    have hB2 := Box.mk (mono_bel hB1.out hb (Nat.le_refl _))
    clear hb hB1
    go_wp2_with fail
    go_returns
    exact ⟨rfl, hB2.out⟩
end Go.Proofs.YthkfefkcjcgfkaaGreatDoor.Me
