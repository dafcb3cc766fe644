/- meta: a document as a value and in memory; the small checks of both. | meta: targets, points, origins, lists. | meta: the rules of a root: all good, or all zero. -/
import Derived.Test.YthkfefkcjcgfkaaGreatDoorWma
import Derived.Test.YthkfefkcjcgfkaaGreatDoorWl1
set_option linter.all false
namespace Go.Proofs.YthkfefkcjcgfkaaGreatDoor.Me
open Go Go.RowKit Go.Proofs.YthkfefkcjcgfkaaGreatDoor Go.Proofs.YthkfefkcjcgfkaaGreatDoor.Nt

/-- The rows that a document's lists lie in. -/
structure Sl where
  a0 : Option Addr × Nat
  a1 : Option Addr × Nat
  a2 : Option Addr × Nat
  a3 : Option Addr × Nat
  aw : Option Addr × Nat
  al : Option Addr × Nat
def docL (d : Dc) (z : Sl) : List Value :=
  [.int .i64 d.k, .int .i64 d.v, .int .i64 d.x, (.slice z.a0.1 d.f.r0.1.length z.a0.2), .int .i64 d.f.r0.2, (.slice z.a1.1 d.f.r1.1.length z.a1.2), .int .i64 d.f.r1.2, (.slice z.a2.1 d.f.r2.1.length z.a2.2), .int .i64 d.f.r2.2, (.slice z.a3.1 d.f.r3.1.length z.a3.2), .int .i64 d.f.r3.2, (.slice z.aw.1 d.f.wt.1.length z.aw.2), .int .i64 d.f.wt.2,
    .string d.f.lg, .string d.f.og, (.slice z.al.1 d.f.ls.length z.al.2), .string d.f.pt.o, .int .i64 d.f.pt.n, .string d.f.pt.r, .int .i64 d.f.oo, .string d.f.hs]
def docV (d : Dc) (z : Sl) : Value := .agg (docL d z).toArray
/-- A list of targets in memory. -/
structure TgsAt (w : World) (v : Value) (ts : List TgM) : Prop where
  ex : ∃ (a : Option Addr) (cap : Nat), v = .slice a ts.length cap ∧ (0 < ts.length → ∃ blk off, a = some ⟨blk, off, none⟩ ∧ blk < w.heap.size ∧ ∀ i, i < ts.length → w.cell? ⟨blk, off + i * 3, none⟩ = some (.int .i64 (ts.getD i default).1) ∧ w.cell? ⟨blk, off + i * 3 + 1, none⟩ = some (.int .i64 (ts.getD i default).2.1) ∧ w.cell? ⟨blk, off + i * 3 + 2, none⟩ = some (.string (ts.getD i default).2.2))
/-- The rows hold the document's lists. -/
structure DcAt (w : World) (z : Sl) (d : Dc) : Prop where
  p0 : PartsAt w (.slice z.a0.1 d.f.r0.1.length z.a0.2) d.f.r0.1
  p1 : PartsAt w (.slice z.a1.1 d.f.r1.1.length z.a1.2) d.f.r1.1
  p2 : PartsAt w (.slice z.a2.1 d.f.r2.1.length z.a2.2) d.f.r2.1
  p3 : PartsAt w (.slice z.a3.1 d.f.r3.1.length z.a3.2) d.f.r3.1
  pw : PartsAt w (.slice z.aw.1 d.f.wt.1.length z.aw.2) d.f.wt.1
  pl : TgsAt w (.slice z.al.1 d.f.ls.length z.al.2) d.f.ls
set_option maxHeartbeats 1600000 in
set_option maxRecDepth 100000 in
theorem gversion_any (n : Int) (w : World) :
    Calls Tryz.prog 74 #[.int .i64 n] w fun e w' => e = .returned (.bool (decide (1 ≤ n ∧ n ≤ 65535))) ∧ Below w.heap.size w w' := by
  have hB0 := Below.refl w.heap.size w
  by_cases h1 : 1 ≤ n
  · by_cases h2 : n ≤ 65535
    · rw [decide_eq_true ⟨h1, h2⟩]
      go_enter Tryz.func74, Tryz.ntmps74
      go_wp2_with fail
      go_ret
      exact ⟨by simp, hB0⟩
    · rw [decide_eq_false fun h => h2 h.2]
      go_enter Tryz.func74, Tryz.ntmps74
      go_wp2_with fail
      go_ret
      exact ⟨by simp, hB0⟩
  · rw [decide_eq_false fun h => h1 h.1]
    go_enter Tryz.func74, Tryz.ntmps74
    go_wp2_with fail
    go_ret
    exact ⟨by simp, hB0⟩
theorem doc_cells {w : World} {b : Nat} {d : Dc} {z : Sl} {t : TypeId} (h : Pk.Blk w b (docL d z) t) :
    w.cell? ⟨b, 0, none⟩ = some (.int .i64 d.k) ∧ w.cell? ⟨b, 1, none⟩ = some (.int .i64 d.v) ∧ w.cell? ⟨b, 2, none⟩ = some (.int .i64 d.x) ∧ w.cell? ⟨b, 3, none⟩ = some (.slice z.a0.1 d.f.r0.1.length z.a0.2) ∧ w.cell? ⟨b, 4, none⟩ = some (.int .i64 d.f.r0.2) ∧ w.cell? ⟨b, 5, none⟩ = some (.slice z.a1.1 d.f.r1.1.length z.a1.2) ∧ w.cell? ⟨b, 6, none⟩ = some (.int .i64 d.f.r1.2) ∧
    w.cell? ⟨b, 7, none⟩ = some (.slice z.a2.1 d.f.r2.1.length z.a2.2) ∧ w.cell? ⟨b, 8, none⟩ = some (.int .i64 d.f.r2.2) ∧ w.cell? ⟨b, 9, none⟩ = some (.slice z.a3.1 d.f.r3.1.length z.a3.2) ∧ w.cell? ⟨b, 10, none⟩ = some (.int .i64 d.f.r3.2) ∧ w.cell? ⟨b, 11, none⟩ = some (.slice z.aw.1 d.f.wt.1.length z.aw.2) ∧ w.cell? ⟨b, 12, none⟩ = some (.int .i64 d.f.wt.2) ∧ w.cell? ⟨b, 13, none⟩ = some (.string d.f.lg) ∧
    w.cell? ⟨b, 14, none⟩ = some (.string d.f.og) ∧ w.cell? ⟨b, 15, none⟩ = some (.slice z.al.1 d.f.ls.length z.al.2) ∧ w.cell? ⟨b, 16, none⟩ = some (.string d.f.pt.o) ∧ w.cell? ⟨b, 17, none⟩ = some (.int .i64 d.f.pt.n) ∧ w.cell? ⟨b, 18, none⟩ = some (.string d.f.pt.r) ∧ w.cell? ⟨b, 19, none⟩ = some (.int .i64 d.f.oo) ∧ w.cell? ⟨b, 20, none⟩ = some (.string d.f.hs) :=
  ⟨h.cell 0, h.cell 1, h.cell 2, h.cell 3, h.cell 4, h.cell 5, h.cell 6, h.cell 7, h.cell 8, h.cell 9, h.cell 10, h.cell 11, h.cell 12, h.cell 13, h.cell 14, h.cell 15, h.cell 16, h.cell 17, h.cell 18, h.cell 19, h.cell 20⟩
theorem doc_new (w : World) (d : Dc) (z : Sl) (t : TypeId) : ∃ W, w.alloc (.cells (docL d z).toArray t) = W ∧ Box (Below w.heap.size w W) ∧ Pk.Blk W w.heap.size (docL d z) t :=
  ⟨_, rfl, ⟨bel_alloc _ _⟩, Pk.Blk.new w _ _⟩
theorem len0 (n : Nat) : decide (n = 0) = ((n : Int) == 0) := by by_cases h : n = 0 <;> simp [h]
theorem beq_b (s : ByteArray) : decide (s = ByteArray.empty) = (s.toList == []) := by
  by_cases h : s = ByteArray.empty
  · subst h; simp
  · have : ¬ s.toList = [] := fun e => h (ba_ext (by rw [← ByteArray.toList_eq, e]; rfl))
    simp [h, this]
set_option maxHeartbeats 1600000 in
set_option maxRecDepth 100000 in
theorem nolist_any (d : Dc) (z : Sl) (w : World) :
    Calls Tryz.prog 107 #[docV d z] w fun e w' => e = .returned (.bool (noLs d.f)) ∧ Below w.heap.size w w' := by
  obtain ⟨W1, hW1, hB1, hS1⟩ := doc_new w d z 46
  obtain ⟨s0, s1, s2, s3, s4, s5, s6, s7, s8, s9, s10, s11, s12, s13, s14, s15, s16, s17, s18, s19, s20⟩ := doc_cells hS1
  unfold noLs
  rw [len0]
  clear hS1 s0 s1 s2 s3 s4 s5 s6 s7 s8 s9 s10 s11 s12 s13 s14 s16 s17 s18 s19 s20
  unfold docV docL at *
  go_enter Tryz.func107, Tryz.ntmps107
  go_wp2_with fail
  go_ret
  exact ⟨rfl, hB1.out⟩
theorem tl_iff (a b : ByteArray) : (a.toList = b.toList) = (a = b) := propext ⟨fun h => ba_ext (by rw [← ByteArray.toList_eq, ← ByteArray.toList_eq]; exact h), fun h => congrArg _ h⟩
set_option maxHeartbeats 1600000 in
set_option maxRecDepth 100000 in
theorem nopoint_any (d : Dc) (z : Sl) (w : World) :
    Calls Tryz.prog 108 #[docV d z] w fun e w' => e = .returned (.bool (noPt d.f)) ∧ Below w.heap.size w w' := by
  obtain ⟨W1, hW1, hB1, hS1⟩ := doc_new w d z 46
  obtain ⟨s0, s1, s2, s3, s4, s5, s6, s7, s8, s9, s10, s11, s12, s13, s14, s15, s16, s17, s18, s19, s20⟩ := doc_cells hS1
  have e : noPt d.f = (decide (d.f.pt.o = ByteArray.empty) && (decide (d.f.pt.n = 0) && decide (d.f.pt.r = ByteArray.empty))) := rfl
  rw [e]
  clear e
  clear hS1 s0 s1 s2 s3 s4 s5 s6 s7 s8 s9 s10 s11 s12 s13 s14 s15 s19 s20
  unfold docV docL at *
  generalize d.f.pt.o = o at *
  generalize d.f.pt.n = n at *
  generalize d.f.pt.r = r at *
  have kr : (ByteArray.empty).toList = [] := by simp
  by_cases h1 : o = ByteArray.empty
  · subst h1
    by_cases h2 : n = 0
    · subst h2
      by_cases h3 : r = ByteArray.empty
      · subst h3
        go_enter Tryz.func108, Tryz.ntmps108
        go_wp2_with fail
        go_ret
        exact ⟨by simp, hB1.out⟩
      · have h3' : ¬ r.toList = [] := fun e => h3 ((tl_iff _ _).mp (by rw [e, kr]))
        rw [decide_eq_false h3]
        go_enter Tryz.func108, Tryz.ntmps108
        go_wp2_with fail
        go_ret
        exact ⟨by simp, hB1.out⟩
    · rw [decide_eq_false h2]
      go_enter Tryz.func108, Tryz.ntmps108
      go_wp2_with fail
      go_ret
      exact ⟨by simp, hB1.out⟩
  · have h1' : ¬ o.toList = [] := fun e => h1 ((tl_iff _ _).mp (by rw [e, kr]))
    rw [decide_eq_false h1]
    go_enter Tryz.func108, Tryz.ntmps108
    go_wp2_with fail
    go_ret
    exact ⟨by simp, hB1.out⟩
set_option maxHeartbeats 1600000 in
set_option maxRecDepth 100000 in
theorem nolink_any (d : Dc) (z : Sl) (w : World) :
    Calls Tryz.prog 109 #[docV d z] w fun e w' => e = .returned (.bool (noLk d.f)) ∧ Below w.heap.size w w' := by
  obtain ⟨W1, hW1, hB1, hS1⟩ := doc_new w d z 46
  obtain ⟨s0, s1, s2, s3, s4, s5, s6, s7, s8, s9, s10, s11, s12, s13, s14, s15, s16, s17, s18, s19, s20⟩ := doc_cells hS1
  have e : noLk d.f = (decide (d.f.oo = 0) && decide (d.f.hs = ByteArray.empty)) := rfl
  rw [e, beq_b]
  clear e
  clear hS1 s0 s1 s2 s3 s4 s5 s6 s7 s8 s9 s10 s11 s12 s13 s14 s15 s16 s17 s18
  by_cases h1 : d.f.oo = 0
  · rw [decide_eq_true h1]
    have h1' : (d.f.oo == 0) = true := by simp [h1]
    clear h1
    unfold docV docL at *
    go_enter Tryz.func109, Tryz.ntmps109
    go_wp2_with fail
    go_ret
    exact ⟨by simp, hB1.out⟩
  · rw [decide_eq_false h1]
    have h1' : (d.f.oo == 0) = false := by simp [h1]
    clear h1
    unfold docV docL at *
    go_enter Tryz.func109, Tryz.ntmps109
    go_wp2_with fail
    go_ret
    exact ⟨by simp, hB1.out⟩
set_option maxHeartbeats 1600000 in
set_option maxRecDepth 100000 in
theorem glink_any (d : Dc) (z : Sl) (w : World) :
    Calls Tryz.prog 113 #[docV d z] w fun e w' => e = .returned (.bool (lkB d.f)) ∧ Below w.heap.size w w' := by
  obtain ⟨W1, hW1, hB1, hS1⟩ := doc_new w d z 46
  obtain ⟨s0, s1, s2, s3, s4, s5, s6, s7, s8, s9, s10, s11, s12, s13, s14, s15, s16, s17, s18, s19, s20⟩ := doc_cells hS1
  have e : lkB d.f = (decide (1 ≤ d.f.oo ∧ d.f.oo ≤ 65535) && ((d.f.hs.size : Int) == 32)) := by
    unfold lkB; congr 1; by_cases h : d.f.hs.size = 32
    · simp [h]
    · rw [decide_eq_false h]; exact (by simp; omega)
  rw [e]
  clear e
  have hC := gversion_any d.f.oo W1
  have hlt := hS1.lt
  clear hS1 s0 s1 s2 s3 s4 s5 s6 s7 s8 s9 s10 s11 s12 s13 s14 s15 s16 s17 s18
  rcases Bool.eq_false_or_eq_true (decide (1 ≤ d.f.oo ∧ d.f.oo ≤ 65535)) with h1 | h1
  · rw [h1] at hC ⊢
    have s20' := fun w2 (hb : Below W1.heap.size W1 w2) => (hb.cell (p := ⟨w.heap.size, 20, none⟩) hlt).trans s20
    clear h1
    unfold docV docL at *
    go_enter Tryz.func113, Tryz.ntmps113
    go_wp2_with fail
    refine hC.mono ?_
    clear hC
    rintro e w1 ⟨rfl, hb1⟩
    have s20w := s20' w1 hb1
    have hB2 := Box.mk (mono_bel hB1.out hb1 (Nat.le_refl _))
    clear hb1 s20' hB1
    go_wp2_with fail
    go_ret
    exact ⟨by simp, hB2.out⟩
  · rw [h1] at hC ⊢
    clear h1
    unfold docV docL at *
    go_enter Tryz.func113, Tryz.ntmps113
    go_wp2_with fail
    refine hC.mono ?_
    clear hC
    rintro e w1 ⟨rfl, hb1⟩
    have hB2 := Box.mk (mono_bel hB1.out hb1 (Nat.le_refl _))
    clear hb1 hB1
    go_wp2_with fail
    go_ret
    exact ⟨by simp, hB2.out⟩
set_option maxHeartbeats 1600000 in
set_option maxRecDepth 100000 in
theorem noset_any (s : SetM) (a : Option Addr) (cap : Nat) (w : World) :
    Calls Tryz.prog 137 #[.agg #[.slice a s.1.length cap, .int .i64 s.2]] w fun e w' => e = .returned (.bool (noS s)) ∧ Below w.heap.size w w' := by
  obtain ⟨W1, hW1⟩ : ∃ W1, w.alloc (.cells #[.slice a s.1.length cap, .int .i64 s.2] 42) = W1 := ⟨_, rfl⟩
  have hB1 : Box (Below w.heap.size w W1) := ⟨by rw [← hW1]; exact bel_alloc _ _⟩
  have hS1 : Pk.Blk W1 w.heap.size [.slice a s.1.length cap, .int .i64 s.2] 42 := by rw [← hW1]; exact Pk.Blk.new w _ _
  have s0 : W1.cell? ⟨w.heap.size, 0, none⟩ = some (.slice a s.1.length cap) := hS1.cell 0
  have s1 : W1.cell? ⟨w.heap.size, 1, none⟩ = some (.int .i64 s.2) := hS1.cell 1
  unfold noS
  rw [len0]
  clear hS1
  rcases Bool.eq_false_or_eq_true ((s.1.length : Int) == 0) with h1 | h1
  · rw [h1]
    go_enter Tryz.func137, Tryz.ntmps137
    go_wp2_with fail
    go_ret
    exact ⟨by first | (simp; done) | (simp; rfl), hB1.out⟩
  · rw [h1]
    go_enter Tryz.func137, Tryz.ntmps137
    go_wp2_with fail
    go_ret
    exact ⟨by first | (simp; done) | (simp; rfl), hB1.out⟩
end Go.Proofs.YthkfefkcjcgfkaaGreatDoor.Me

namespace Go.Proofs.YthkfefkcjcgfkaaGreatDoor.Me
open Go Go.RowKit Go.Proofs.YthkfefkcjcgfkaaGreatDoor Go.Proofs.YthkfefkcjcgfkaaGreatDoor.Nt
theorem len32 (n : Nat) : decide (n = 32) = ((n : Int) == 32) := by
  by_cases h : n = 32
  · simp [h]
  · rw [decide_eq_false h]; symm; simp; omega
def tgG (t : TgM) : Bool := decide (t.1 ≤ 255) && (decide (0 ≤ t.2.1) && (decide (t.2.1 < 1024) && decide (t.2.2.size = 32)))
set_option maxHeartbeats 3200000 in
set_option maxRecDepth 100000 in
theorem gtarget_any (v at_ : Int) (s : ByteArray) (w : World) :
    Calls Tryz.prog 138 #[.agg #[.int .i64 v, .int .i64 at_, .string s]] w fun e w' => e = .returned (.bool (tgG (v, at_, s))) ∧ Below w.heap.size w w' := by
  obtain ⟨W1, hW1⟩ : ∃ W1, w.alloc (.cells #[.int .i64 v, .int .i64 at_, .string s] 134) = W1 := ⟨_, rfl⟩
  have hB1 : Box (Below w.heap.size w W1) := ⟨by rw [← hW1]; exact bel_alloc _ _⟩
  have hS1 : Pk.Blk W1 w.heap.size [.int .i64 v, .int .i64 at_, .string s] 134 := by rw [← hW1]; exact Pk.Blk.new w _ _
  have s0 : W1.cell? ⟨w.heap.size, 0, none⟩ = some (.int .i64 v) := hS1.cell 0
  have s1 : W1.cell? ⟨w.heap.size, 1, none⟩ = some (.int .i64 at_) := hS1.cell 1
  have s2 : W1.cell? ⟨w.heap.size, 2, none⟩ = some (.string s) := hS1.cell 2
  unfold tgG
  rw [len32]
  dsimp only
  clear hS1
  go_enter Tryz.func138, Tryz.ntmps138
  go_wp2_with fail
  all_goals
    go_ret
    exact ⟨by first | (simp [*]; done) | (simp [*]; omega), hB1.out⟩
set_option maxHeartbeats 3200000 in
set_option maxRecDepth 100000 in
theorem gpoint_any (c : Ck) (B : Nat) (w : World) (hL : NL B w) (hB : B ≤ w.heap.size) (ho : c.o.size ≤ 140737488355328) (hr : c.r.size ≤ 140737488355328) :
    Calls Tryz.prog 112 #[ckV c] w fun e w' => e = .returned (.bool (gC c)) ∧ Below w.heap.size w w' := by
  obtain ⟨W1, hW1⟩ : ∃ W1, w.alloc (.cells #[.string c.o, .int .i64 c.n, .string c.r] 23) = W1 := ⟨_, rfl⟩
  have hB1 : Box (Below w.heap.size w W1) := ⟨by rw [← hW1]; exact bel_alloc _ _⟩
  have hS1 : Pk.Blk W1 w.heap.size [.string c.o, .int .i64 c.n, .string c.r] 23 := by rw [← hW1]; exact Pk.Blk.new w _ _
  have s0 : W1.cell? ⟨w.heap.size, 0, none⟩ = some (.string c.o) := hS1.cell 0
  have s1 : W1.cell? ⟨w.heap.size, 1, none⟩ = some (.int .i64 c.n) := hS1.cell 1
  have s2 : W1.cell? ⟨w.heap.size, 2, none⟩ = some (.string c.r) := hS1.cell 2
  have hT := text_any c B W1 (hL.here hB hB1.out) (by have := hB1.out.size; omega) ho hr
  unfold ckV at *
  rcases Bool.eq_false_or_eq_true (gC c) with hg | hg
  · rw [txtV_yes hg] at hT
    rw [hg]
    clear hS1 hL hB ho hr hg
    go_enter Tryz.func112, Tryz.ntmps112
    go_wp2_with fail
    refine hT.mono ?_
    clear hT
    rintro e w1 ⟨rfl, hb1⟩
    have hB2 := Box.mk (mono_bel hB1.out hb1 (Nat.le_refl _))
    clear hb1 hB1
    go_wp2_with fail
    go_ret
    exact ⟨by simp, hB2.out⟩
  · rw [txtV_no hg] at hT
    rw [hg]
    clear hS1 hL hB ho hr hg
    go_enter Tryz.func112, Tryz.ntmps112
    go_wp2_with fail
    refine hT.mono ?_
    clear hT
    rintro e w1 ⟨rfl, hb1⟩
    have hB2 := Box.mk (mono_bel hB1.out hb1 (Nat.le_refl _))
    clear hb1 hB1
    go_wp2_with fail
    go_ret
    exact ⟨by simp, hB2.out⟩
/-- A hash of zeros. -/
def z32 : ByteArray := ⟨(List.replicate 32 (0 : UInt8)).toArray⟩
theorem zeros_rep : (⟨(Lib.repeatL (ByteArray.mk #[0]).data.toList 32).toArray⟩ : ByteArray) = z32 := by decide +kernel
theorem rep_any (w : World) : Calls Tryz.prog 151 #[.string ⟨#[0]⟩, .int .i64 32] w fun e w' => e = .returned (.string z32) ∧ Below w.heap.size w w' := by
  have h := Tryz.strings_Repeat ⟨#[0]⟩ 32 w (by decide) (by decide)
  rw [zeros_rep] at h
  exact h
theorem z32_size : z32.size = 32 := by decide +kernel
theorem gC_zero (s : ByteArray) : gC ⟨s, 0, z32⟩ = gO s.data.toList := by
  unfold gC; simp [z32_size]
set_option maxHeartbeats 3200000 in
set_option maxRecDepth 100000 in
theorem gorigin_any (s : ByteArray) (B : Nat) (w : World) (hL : NL B w) (hB : B ≤ w.heap.size) (ho : s.size ≤ 140737488355328) :
    Calls Tryz.prog 136 #[.string s] w fun e w' => e = .returned (.bool (gO s.data.toList)) ∧ Below w.heap.size w w' := by
  have hR := rep_any w
  have hP := fun w1 (hb : Below w.heap.size w w1) => gpoint_any ⟨s, 0, z32⟩ B w1 (hL.here hB hb) (by have := hb.size; omega) ho (by rw [z32_size]; omega)
  rw [gC_zero] at hP
  unfold ckV at hP
  generalize z32 = zz at *
  replace hP := Box.mk hP
  clear hL hB ho
  go_enter Tryz.func136, Tryz.ntmps136
  go_wp2_with fail
  refine hR.mono ?_
  clear hR
  rintro e w1 ⟨rfl, hb1⟩
  have hP1 := hP.out w1 hb1
  replace hb1 := Box.mk hb1
  go_wp2_with fail
  refine hP1.mono ?_
  clear hP1 hP
  rintro e w2 ⟨rfl, hb2⟩
  have hB2 := Box.mk (mono_bel hb1.out hb2 (Nat.le_refl _))
  clear hb2 hb1
  go_wp2_with fail
  go_ret
  exact ⟨by simp, hB2.out⟩
theorem tgAt_eq (ts : List TgM) (i : Nat) : tgAt ts i = (tgG (ts.getD i default) && (decide (1 ≤ (ts.getD i default).1) && (decide (i = 0) || decide ((ts.getD (i - 1) default).1 < (ts.getD i default).1)))) := by
  unfold tgAt tgG
  generalize ts.getD i default = t
  obtain ⟨a, b, c⟩ := t
  dsimp only
  by_cases h1 : 1 ≤ a <;> by_cases h2 : a ≤ 255 <;> by_cases h3 : 0 ≤ b <;> by_cases h4 : b < 1024 <;> by_cases h5 : c.size = 32 <;> simp [h1, h2, h3, h4, h5]
/-- The version ahead of place i, or 0. -/
def lastV (ts : List TgM) (i : Nat) : Int := if i = 0 then 0 else (ts.getD (i - 1) default).1
theorem tg_step {ts : List TgM} {i : Nat} (h : ∀ j, j < i → tgAt ts j = true) : tgAt ts i = (!decide ((ts.getD i default).1 ≤ lastV ts i) && tgG (ts.getD i default)) := by
  rw [tgAt_eq]
  by_cases h0 : i = 0
  · subst h0
    unfold lastV
    rw [if_pos rfl]
    generalize ts.getD 0 default = t
    by_cases h1 : 1 ≤ t.1
    · have : ¬ t.1 ≤ 0 := by omega
      rw [decide_eq_true h1, decide_eq_false this]; simp
    · have : t.1 ≤ 0 := by omega
      rw [decide_eq_false h1, decide_eq_true this]; simp
  · have h1 := h (i - 1) (by omega)
    rw [tgAt_eq] at h1
    simp only [Bool.and_eq_true, decide_eq_true_iff] at h1
    have h2 := h1.2.1
    unfold lastV
    rw [if_neg h0, decide_eq_false h0]
    generalize ts.getD i default = t at *
    generalize ts.getD (i - 1) default = t' at *
    by_cases h3 : t'.1 < t.1
    · have h4 : ¬ t.1 ≤ t'.1 := by omega
      have h5 : 1 ≤ t.1 := by omega
      rw [decide_eq_true h3, decide_eq_false h4, decide_eq_true h5]; simp
    · have h4 : t.1 ≤ t'.1 := by omega
      rw [decide_eq_false h3, decide_eq_true h4]; simp
theorem listB_no {ts : List TgM} {i : Nat} (hi : i < ts.length) (h : tgAt ts i = false) : listB ts = false := by
  unfold listB
  rw [Bool.and_eq_false_iff]
  exact .inr (List.all_eq_false.2 ⟨i, List.mem_range.2 hi, by rw [h]; simp⟩)
theorem listB_yes {ts : List TgM} (hl : ts.length ≤ 64) (h : ∀ j, j < ts.length → tgAt ts j = true) : listB ts = true := by
  unfold listB
  rw [Bool.and_eq_true, decide_eq_true_iff, List.all_eq_true]
  exact ⟨hl, fun j hj => h j (List.mem_range.1 hj)⟩
theorem listB_long {ts : List TgM} (hl : 64 < ts.length) : listB ts = false := by
  unfold listB
  rw [decide_eq_false (by omega)]; rfl
set_option maxHeartbeats 3200000 in
set_option maxRecDepth 100000 in
theorem goodlist_any (a : Option Addr) (cap : Nat) (ts : List TgM) (w : World) (hv : TgsAt w (.slice a ts.length cap) ts) (hm : ts.length ≤ maxLen) :
    Calls Tryz.prog 111 #[.slice a ts.length cap] w fun e w' => e = .returned (.bool (listB ts)) ∧ Below w.heap.size w w' := by
  have hB0 : Box (Below w.heap.size w w) := ⟨Below.refl _ _⟩
  obtain ⟨L, hL⟩ : ∃ L, ts.length = L := ⟨_, rfl⟩
  rw [hL] at hv hm ⊢
  by_cases h64 : 64 < L
  · rw [listB_long (by omega)]
    have h64' : 64 < (L : Int) := by omega
    clear hv hm
    go_enter Tryz.func111, Tryz.ntmps111
    go_wp2_with fail
    go_ret
    exact ⟨by simp, hB0.out⟩
  have h64' : ¬ 64 < (L : Int) := by omega
  by_cases h0 : L = 0
  · have e : listB ts = true := listB_yes (by omega) (fun j hj => absurd hj (by omega))
    rw [e]
    subst h0
    clear hv hm
    go_enter Tryz.func111, Tryz.ntmps111
    go_wp2_with fail
    go_loopw [11, 3] (fun q r wr => q = .int .i64 0 ∧ r = .int .i64 0 ∧ Box (Below w.heap.size w wr)) (fun _ _ _ => 0)
    case atStart => exact ⟨rfl, rfl, hB0⟩
    case round =>
      obtain ⟨rfl, rfl, hB⟩ := hrel
      go_wp2_with fail
      go_returns
      exact ⟨by rfl, hB.out⟩
  obtain ⟨a', cap', hav, hx⟩ := hv.ex
  obtain ⟨blk, off, ha, hlt, hc⟩ := hx (by omega)
  have haa : a = some ⟨blk, off, none⟩ := by
    rw [← ha]; exact (Value.slice.inj hav).1
  subst haa
  clear hx hm hav ha a'
  have hyes := fun h => listB_yes (ts := ts) (by omega) h
  have hno := fun i => listB_no (ts := ts) (i := i)
  rw [hL] at hc hyes hno
  have hltB := Box.mk hlt
  replace hc := Box.mk hc
  replace hyes := Box.mk hyes
  replace hno := Box.mk hno
  clear hlt hL h0 hv
  obtain ⟨E, hE⟩ : ∃ E, listB ts = E := ⟨_, rfl⟩
  rw [hE] at hyes hno ⊢
  clear hE
  go_enter Tryz.func111, Tryz.ntmps111
  go_wp2_with fail
  go_loopw [11, 3] (fun q r wr => ∃ i : Nat, i ≤ L ∧ q = .int .i64 (i : Int) ∧ r = .int .i64 (lastV ts i) ∧ Box (∀ j, j < i → tgAt ts j = true) ∧ Box (Below w.heap.size w wr)) (fun q _ _ => L - (intOf q).toNat)
  case atStart => exact ⟨0, by omega, rfl, rfl, ⟨fun j hj => by omega⟩, hB0⟩
  case round =>
    clear hB0
    obtain ⟨i, hi, rfl, rfl, hA, hB⟩ := hrel
    by_cases hlt : i < L
    · obtain ⟨k1, k2, k3⟩ := hc.out i hlt
      have hst := tg_step hA.out
      have hla : lastV ts (i + 1) = (ts.getD i default).1 := by unfold lastV; rw [if_neg (by omega), Nat.add_sub_cancel]
      obtain ⟨t, ht⟩ : ∃ t, ts.getD i default = t := ⟨_, rfl⟩
      rw [ht] at k1 k2 k3 hst hla
      obtain ⟨v, at_, sx⟩ := t
      dsimp only at k1 k2 k3 hst hla
      have c1 : wr.cell? ⟨blk, off + i * 3, none⟩ = some (.int .i64 v) := (hB.out.cell (p := ⟨blk, off + i * 3, none⟩) hltB.out).trans k1
      have c2 : wr.cell? ⟨blk, off + i * 3 + 1, none⟩ = some (.int .i64 at_) := (hB.out.cell (p := ⟨blk, off + i * 3 + 1, none⟩) hltB.out).trans k2
      have c3 : wr.cell? ⟨blk, off + i * 3 + 2, none⟩ = some (.string sx) := (hB.out.cell (p := ⟨blk, off + i * 3 + 2, none⟩) hltB.out).trans k3
      have hC := gtarget_any v at_ sx
      have hnoi := Box.mk (hno.out i hlt)
      obtain ⟨G, hG⟩ : ∃ G, tgG (v, at_, sx) = G := ⟨_, rfl⟩
      obtain ⟨lv, hlv⟩ : ∃ lv, lastV ts i = lv := ⟨_, rfl⟩
      rw [hG] at hC hst
      rw [hlv] at hst ⊢
      have hAn : ∀ v, tgAt ts i = v → v = true → ∀ j, j < i + 1 → tgAt ts j = true := fun v e ev j hj => by
        by_cases e2 : j = i
        · subst e2; rw [e, ev]
        · exact hA.out j (by omega)
      replace hAn := Box.mk hAn
      replace hst := Box.mk hst
      replace hla := Box.mk hla
      have hig : (i : Int) < (L : Int) := by omega
      clear k1 k2 k3 hA ht hG hlv
      have hA1 : Box (Below w.heap.size w (wr.alloc (.cells #[.int .i64 v, .int .i64 at_, .string sx] 134))) := ⟨hB.out.alloc (by have := hB.out.size; omega) _⟩
      have hN1 : (wr.alloc (.cells #[.int .i64 v, .int .i64 at_, .string sx] 134)).cell? ⟨wr.heap.size, 0, none⟩ = some (.int .i64 v) := (Pk.Blk.new wr [.int .i64 v, .int .i64 at_, .string sx] 134).cell 0
      have hN2 := (Pk.Blk.new wr [.int .i64 v, .int .i64 at_, .string sx] 134).lt
      by_cases hvl : v ≤ lv
      · have hEk : Box (E = false) := ⟨hnoi.out (by rw [hst.out, decide_eq_true hvl]; rfl)⟩
        clear hN1 hN2
        go_wp2_with fail
        go_returns
        exact ⟨by rw [hEk.out]; rfl, hA1.out⟩
      · cases G with
        | true =>
          have hok : Box (tgAt ts i = true) := ⟨by rw [hst.out, decide_eq_false hvl]; rfl⟩
          go_wp2_with fail
          refine (hC _).mono ?_
          clear hC
          rintro e w1 ⟨rfl, hb1⟩
          have hN3 := (hb1.cell (p := ⟨wr.heap.size, 0, none⟩) hN2).trans hN1
          have hB2 := Box.mk (mono_bel hA1.out hb1 (Nat.le_refl _))
          clear hb1 hN1 hN2 hA1
          go_wp2_with fail
          exact ⟨⟨i + 1, by omega, by go_num, by rw [hla.out], ⟨hAn.out true hok.out rfl⟩, hB2⟩, by simp [intOf]; omega⟩
        | false =>
          have hEk : Box (E = false) := ⟨hnoi.out (by rw [hst.out]; simp)⟩
          go_wp2_with fail
          refine (hC _).mono ?_
          clear hC
          rintro e w1 ⟨rfl, hb1⟩
          have hB2 := Box.mk (mono_bel hA1.out hb1 (Nat.le_refl _))
          clear hb1 hN1 hN2 hA1
          go_wp2_with fail
          go_returns
          exact ⟨by rw [hEk.out]; rfl, hB2.out⟩
    · obtain rfl : i = L := by omega
      have hokL : Box (E = true) := ⟨hyes.out hA.out⟩
      go_wp2_with fail
      go_returns
      exact ⟨by rw [hokL.out]; rfl, hB.out⟩
end Go.Proofs.YthkfefkcjcgfkaaGreatDoor.Me

namespace Go.Proofs.YthkfefkcjcgfkaaGreatDoor.Me
open Go Go.RowKit Go.Proofs.YthkfefkcjcgfkaaGreatDoor Go.Proofs.YthkfefkcjcgfkaaGreatDoor.Nt
/-- The bounds under which all walks go. -/
structure DcOk (d : Dc) : Prop where
  l0 : d.f.r0.1.length ≤ maxLen
  l1 : d.f.r1.1.length ≤ maxLen
  l2 : d.f.r2.1.length ≤ maxLen
  l3 : d.f.r3.1.length ≤ maxLen
  lw : d.f.wt.1.length ≤ maxLen
  ll : d.f.ls.length ≤ maxLen
  og : d.f.og.size ≤ 140737488355328
  po : d.f.pt.o.size ≤ 140737488355328
  pr : d.f.pt.r.size ≤ 140737488355328
theorem TgsAt.here {w w' : World} {v : Value} {ts : List TgM} (h : TgsAt w v ts) (hb : Below w.heap.size w w') : TgsAt w' v ts := by
  obtain ⟨a, cap, rfl, hh⟩ := h.ex
  refine ⟨a, cap, rfl, fun h0 => ?_⟩
  obtain ⟨blk, off, rfl, hlt, hc⟩ := hh h0
  exact ⟨blk, off, rfl, Nat.lt_of_lt_of_le hlt hb.size, fun i hi => ⟨(hb.cell (p := ⟨blk, off + i * 3, none⟩) hlt).trans (hc i hi).1, (hb.cell (p := ⟨blk, off + i * 3 + 1, none⟩) hlt).trans (hc i hi).2.1, (hb.cell (p := ⟨blk, off + i * 3 + 2, none⟩) hlt).trans (hc i hi).2.2⟩⟩
theorem DcAt.here {w w' : World} {z : Sl} {d : Dc} (h : DcAt w z d) (hb : Below w.heap.size w w') : DcAt w' z d :=
  ⟨h.p0.here hb, h.p1.here hb, h.p2.here hb, h.p3.here hb, h.pw.here hb, h.pl.here hb⟩
theorem noset_at (s : SetM) (x : Option Addr × Nat) (w' : World) : Calls Tryz.prog 137 #[.agg #[.slice x.1 s.1.length x.2, .int .i64 s.2]] w' fun e w2 => e = .returned (.bool (noS s)) ∧ Below w'.heap.size w' w2 :=
  noset_any s x.1 x.2 w'
/-- What is left to look at from the i-th set on. -/
def fr (b0 b1 b2 b3 T : Bool) : Nat → Bool
  | 0 => b0 && (b1 && (b2 && (b3 && T)))
  | 1 => b1 && (b2 && (b3 && T))
  | 2 => b2 && (b3 && T)
  | 3 => b3 && T
  | _ => T
theorem check_at (s : SetM) (v : Value) (w' : World) (h : PartsAt w' v s.1) (hm : s.1.length ≤ maxLen) (b : Bool) (hb : chkS s = b) :
    Calls Tryz.prog 135 #[.agg #[v, .int .i64 s.2]] w' fun e w2 => e = .returned (.int .i64 (if b then 0 else 1)) ∧ Below w'.heap.size w' w2 := by
  have h1 := check_any v s.1 s.2 w' h hm
  unfold chkE at h1
  unfold chkS at hb
  rw [hb] at h1
  exact h1
theorem blk_cell {W1 wr : World} {b i : Nat} {u : Value} (hb : Below W1.heap.size W1 wr) (hlt : b < W1.heap.size) (h : W1.cell? ⟨b, i, none⟩ = some u) : wr.cell? ⟨b, i, none⟩ = some u := (hb.cell (p := ⟨b, i, none⟩) hlt).trans h
theorem idx_0 (c0 c1 c2 c3 c4 c5 c6 c7 : Value) (w : World) : (Instr.index 43 (.agg #[c0, c1, c2, c3, c4, c5, c6, c7]) (.int .i64 0)).run Tryz.prog w = .ok (.agg #[c0, c1]) w := by kernel_rfl
theorem idx_1 (c0 c1 c2 c3 c4 c5 c6 c7 : Value) (w : World) : (Instr.index 43 (.agg #[c0, c1, c2, c3, c4, c5, c6, c7]) (.int .i64 1)).run Tryz.prog w = .ok (.agg #[c2, c3]) w := by kernel_rfl
theorem idx_2 (c0 c1 c2 c3 c4 c5 c6 c7 : Value) (w : World) : (Instr.index 43 (.agg #[c0, c1, c2, c3, c4, c5, c6, c7]) (.int .i64 2)).run Tryz.prog w = .ok (.agg #[c4, c5]) w := by kernel_rfl
theorem idx_3 (c0 c1 c2 c3 c4 c5 c6 c7 : Value) (w : World) : (Instr.index 43 (.agg #[c0, c1, c2, c3, c4, c5, c6, c7]) (.int .i64 3)).run Tryz.prog w = .ok (.agg #[c6, c7]) w := by kernel_rfl
set_option maxHeartbeats 3200000 in
set_option maxRecDepth 100000 in
theorem goodrules_any (d : Dc) (z : Sl) (B : Nat) (w : World) (hL : NL B w) (hB : B ≤ w.heap.size) (hv : DcAt w z d) (ho : DcOk d) :
    Calls Tryz.prog 106 #[docV d z] w fun e w' => e = .returned (.bool (ruB d.f)) ∧ Below w.heap.size w w' := by
  obtain ⟨W1, hW1, hB1, hS1⟩ := doc_new w d z 46
  have hlt := hS1.lt
  obtain ⟨-, -, -, s3, s4, s5, s6, s7, s8, s9, s10, s11, s12, s13, s14, -⟩ := doc_cells hS1
  obtain ⟨b0, hb0⟩ : ∃ b, chkS d.f.r0 = b := ⟨_, rfl⟩
  have q0 := fun w' (hb : Below w.heap.size w w') => check_at d.f.r0 (.slice z.a0.1 d.f.r0.1.length z.a0.2) w' (hv.p0.here hb) ho.l0 b0 hb0
  obtain ⟨b1, hb1⟩ : ∃ b, chkS d.f.r1 = b := ⟨_, rfl⟩
  have q1 := fun w' (hb : Below w.heap.size w w') => check_at d.f.r1 (.slice z.a1.1 d.f.r1.1.length z.a1.2) w' (hv.p1.here hb) ho.l1 b1 hb1
  obtain ⟨b2, hb2⟩ : ∃ b, chkS d.f.r2 = b := ⟨_, rfl⟩
  have q2 := fun w' (hb : Below w.heap.size w w') => check_at d.f.r2 (.slice z.a2.1 d.f.r2.1.length z.a2.2) w' (hv.p2.here hb) ho.l2 b2 hb2
  obtain ⟨b3, hb3⟩ : ∃ b, chkS d.f.r3 = b := ⟨_, rfl⟩
  have q3 := fun w' (hb : Below w.heap.size w w') => check_at d.f.r3 (.slice z.a3.1 d.f.r3.1.length z.a3.2) w' (hv.p3.here hb) ho.l3 b3 hb3
  obtain ⟨b4, hb4⟩ : ∃ b, chkS d.f.wt = b := ⟨_, rfl⟩
  have q4 := fun w' (hb : Below w.heap.size w w') => check_at d.f.wt (.slice z.aw.1 d.f.wt.1.length z.aw.2) w' (hv.pw.here hb) ho.lw b4 hb4
  have qo := fun w' (hb : Below w.heap.size w w') => gorigin_any d.f.og B w' (hL.here hB hb) (by have := hb.size; omega) ho.og
  obtain ⟨G, hG⟩ : ∃ G, gO d.f.og.data.toList = G := ⟨_, rfl⟩
  rw [hG] at qo
  have eR : ruB d.f = fr b0 b1 b2 b3 (b4 && (((d.f.lg.size : Int) == 32) && G)) 0 := by unfold ruB; rw [hb0, hb1, hb2, hb3, hb4, hG, len32]; rfl
  clear hS1 hv hb0 hb1 hb2 hb3 hb4 ho hG hL hB
  rw [eR]
  clear eR
  generalize hT : (b4 && _) = T
  replace q0 := Box.mk q0
  replace q1 := Box.mk q1
  replace q2 := Box.mk q2
  replace q3 := Box.mk q3
  replace q4 := Box.mk q4
  replace qo := Box.mk qo
  obtain ⟨R, hR⟩ : ∃ R, fr b0 b1 b2 b3 T 0 = R := ⟨_, rfl⟩
  rw [hR]
  replace hR := Box.mk hR
  replace hT := Box.mk hT
  have hB0 : Box (Below W1.heap.size W1 W1) := ⟨Below.refl _ _⟩
  unfold docV docL at *
  go_enter Tryz.func106, Tryz.ntmps106
  go_wp2_with fail
  go_loopw [7] (fun q wr => ∃ i : Nat, i ≤ 4 ∧ q = .int .i64 (i : Int) ∧ Box (fr b0 b1 b2 b3 T i = R) ∧ Box (Below W1.heap.size W1 wr)) (fun q _ => 4 - (intOf q).toNat)
  case atStart => exact ⟨0, by omega, rfl, hR, hB0⟩
  case round =>
    clear hB0 hR
    obtain ⟨i, hi, rfl, hA, hB⟩ := hrel
    rcases (show i = 0 ∨ i = 1 ∨ i = 2 ∨ i = 3 ∨ i = 4 by omega) with rfl | rfl | rfl | rfl | rfl
    · clear hi
      have hA1 : Box (Below W1.heap.size W1 (wr.alloc (.cells #[.slice z.a0.1 d.f.r0.1.length z.a0.2, .int .i64 d.f.r0.2] 42))) := ⟨hB.out.alloc (by have := hB.out.size; omega) _⟩
      have hix := idx_0 (.slice z.a0.1 d.f.r0.1.length z.a0.2) (.int .i64 d.f.r0.2) (.slice z.a1.1 d.f.r1.1.length z.a1.2) (.int .i64 d.f.r1.2) (.slice z.a2.1 d.f.r2.1.length z.a2.2) (.int .i64 d.f.r2.2) (.slice z.a3.1 d.f.r3.1.length z.a3.2) (.int .i64 d.f.r3.2) wr
      have hq := q0.out (wr.alloc (.cells #[.slice z.a0.1 d.f.r0.1.length z.a0.2, .int .i64 d.f.r0.2] 42)) (mono_bel hB1.out hA1.out (Nat.le_refl _))
      cases b0 with
      | true =>
        go_wp2_with fail
        refine hq.mono ?_
        clear hq
        rintro e w1 ⟨rfl, hb1⟩
        have hB2 := Box.mk (mono_bel hA1.out hb1 (Nat.le_refl _))
        clear hb1 hA1
        go_wp2_with fail
        exact ⟨⟨1, by omega, rfl, ⟨by have := hA.out; simpa [fr] using this⟩, hB2⟩, by simp [intOf]⟩
      | false =>
        go_wp2_with fail
        refine hq.mono ?_
        clear hq
        rintro e w1 ⟨rfl, hb1⟩
        have hB2 := Box.mk (mono_bel hA1.out hb1 (Nat.le_refl _))
        clear hb1 hA1
        go_wp2_with fail
        go_returns
        exact ⟨by have := hA.out; simp [fr] at this; rw [← this]; rfl, mono_bel hB1.out hB2.out (Nat.le_refl _)⟩
    · clear hi
      have hA1 : Box (Below W1.heap.size W1 (wr.alloc (.cells #[.slice z.a1.1 d.f.r1.1.length z.a1.2, .int .i64 d.f.r1.2] 42))) := ⟨hB.out.alloc (by have := hB.out.size; omega) _⟩
      have hix := idx_1 (.slice z.a0.1 d.f.r0.1.length z.a0.2) (.int .i64 d.f.r0.2) (.slice z.a1.1 d.f.r1.1.length z.a1.2) (.int .i64 d.f.r1.2) (.slice z.a2.1 d.f.r2.1.length z.a2.2) (.int .i64 d.f.r2.2) (.slice z.a3.1 d.f.r3.1.length z.a3.2) (.int .i64 d.f.r3.2) wr
      have hq := q1.out (wr.alloc (.cells #[.slice z.a1.1 d.f.r1.1.length z.a1.2, .int .i64 d.f.r1.2] 42)) (mono_bel hB1.out hA1.out (Nat.le_refl _))
      cases b1 with
      | true =>
        go_wp2_with fail
        refine hq.mono ?_
        clear hq
        rintro e w1 ⟨rfl, hb1⟩
        have hB2 := Box.mk (mono_bel hA1.out hb1 (Nat.le_refl _))
        clear hb1 hA1
        go_wp2_with fail
        exact ⟨⟨2, by omega, rfl, ⟨by have := hA.out; simpa [fr] using this⟩, hB2⟩, by simp [intOf]⟩
      | false =>
        go_wp2_with fail
        refine hq.mono ?_
        clear hq
        rintro e w1 ⟨rfl, hb1⟩
        have hB2 := Box.mk (mono_bel hA1.out hb1 (Nat.le_refl _))
        clear hb1 hA1
        go_wp2_with fail
        go_returns
        exact ⟨by have := hA.out; simp [fr] at this; rw [← this]; rfl, mono_bel hB1.out hB2.out (Nat.le_refl _)⟩
    · clear hi
      have hA1 : Box (Below W1.heap.size W1 (wr.alloc (.cells #[.slice z.a2.1 d.f.r2.1.length z.a2.2, .int .i64 d.f.r2.2] 42))) := ⟨hB.out.alloc (by have := hB.out.size; omega) _⟩
      have hix := idx_2 (.slice z.a0.1 d.f.r0.1.length z.a0.2) (.int .i64 d.f.r0.2) (.slice z.a1.1 d.f.r1.1.length z.a1.2) (.int .i64 d.f.r1.2) (.slice z.a2.1 d.f.r2.1.length z.a2.2) (.int .i64 d.f.r2.2) (.slice z.a3.1 d.f.r3.1.length z.a3.2) (.int .i64 d.f.r3.2) wr
      have hq := q2.out (wr.alloc (.cells #[.slice z.a2.1 d.f.r2.1.length z.a2.2, .int .i64 d.f.r2.2] 42)) (mono_bel hB1.out hA1.out (Nat.le_refl _))
      cases b2 with
      | true =>
        go_wp2_with fail
        refine hq.mono ?_
        clear hq
        rintro e w1 ⟨rfl, hb1⟩
        have hB2 := Box.mk (mono_bel hA1.out hb1 (Nat.le_refl _))
        clear hb1 hA1
        go_wp2_with fail
        exact ⟨⟨3, by omega, rfl, ⟨by have := hA.out; simpa [fr] using this⟩, hB2⟩, by simp [intOf]⟩
      | false =>
        go_wp2_with fail
        refine hq.mono ?_
        clear hq
        rintro e w1 ⟨rfl, hb1⟩
        have hB2 := Box.mk (mono_bel hA1.out hb1 (Nat.le_refl _))
        clear hb1 hA1
        go_wp2_with fail
        go_returns
        exact ⟨by have := hA.out; simp [fr] at this; rw [← this]; rfl, mono_bel hB1.out hB2.out (Nat.le_refl _)⟩
    · clear hi
      have hA1 : Box (Below W1.heap.size W1 (wr.alloc (.cells #[.slice z.a3.1 d.f.r3.1.length z.a3.2, .int .i64 d.f.r3.2] 42))) := ⟨hB.out.alloc (by have := hB.out.size; omega) _⟩
      have hix := idx_3 (.slice z.a0.1 d.f.r0.1.length z.a0.2) (.int .i64 d.f.r0.2) (.slice z.a1.1 d.f.r1.1.length z.a1.2) (.int .i64 d.f.r1.2) (.slice z.a2.1 d.f.r2.1.length z.a2.2) (.int .i64 d.f.r2.2) (.slice z.a3.1 d.f.r3.1.length z.a3.2) (.int .i64 d.f.r3.2) wr
      have hq := q3.out (wr.alloc (.cells #[.slice z.a3.1 d.f.r3.1.length z.a3.2, .int .i64 d.f.r3.2] 42)) (mono_bel hB1.out hA1.out (Nat.le_refl _))
      cases b3 with
      | true =>
        go_wp2_with fail
        refine hq.mono ?_
        clear hq
        rintro e w1 ⟨rfl, hb1⟩
        have hB2 := Box.mk (mono_bel hA1.out hb1 (Nat.le_refl _))
        clear hb1 hA1
        go_wp2_with fail
        exact ⟨⟨4, by omega, rfl, ⟨by have := hA.out; simpa [fr] using this⟩, hB2⟩, by simp [intOf]⟩
      | false =>
        go_wp2_with fail
        refine hq.mono ?_
        clear hq
        rintro e w1 ⟨rfl, hb1⟩
        have hB2 := Box.mk (mono_bel hA1.out hb1 (Nat.le_refl _))
        clear hb1 hA1
        go_wp2_with fail
        go_returns
        exact ⟨by have := hA.out; simp [fr] at this; rw [← this]; rfl, mono_bel hB1.out hB2.out (Nat.le_refl _)⟩
    · clear hi
      have k11 := blk_cell hB.out hlt s11
      have k12 := blk_cell hB.out hlt s12
      have k13 := blk_cell hB.out hlt s13
      have k14 := blk_cell hB.out hlt s14
      have hTR : Box (T = R) := ⟨by have := hA.out; simpa [fr] using this⟩
      have hT2 := hT.out
      rw [hTR.out] at hT2
      replace hT2 := Box.mk hT2
      clear hA hT hTR
      have hq := q4.out wr (mono_bel hB1.out hB.out (Nat.le_refl _))
      clear s3 s4 s5 s6 s7 s8 s9 s10 s11 s12  q0 q1 q2 q3 q4
      cases b4 with
      | true =>
        go_wp2_with fail
        refine hq.mono ?_
        clear hq
        rintro e w1 ⟨rfl, hb1⟩
        have hB2 := Box.mk (mono_bel hB.out hb1 (Nat.le_refl _))
        have m13 := blk_cell hB2.out hlt s13
        have m14 := blk_cell hB2.out hlt s14
        clear hb1 hB k11 k12 k13 k14 s13 s14
        have ho2 := qo.out w1 (mono_bel hB1.out hB2.out (Nat.le_refl _))
        rcases Bool.eq_false_or_eq_true ((d.f.lg.size : Int) == 32) with h3 | h3
        · rw [h3] at hT2
          go_wp2_with fail
          refine ho2.mono ?_
          clear ho2
          rintro e w2 ⟨rfl, hb2⟩
          have hB3 := Box.mk (mono_bel hB2.out hb2 (Nat.le_refl _))
          clear hb2 hB2
          go_wp2_with fail
          go_returns
          exact ⟨by have := hT2.out; rw [← this]; first | rfl | (simp [*]; done) | (simp [*]; rfl), mono_bel hB1.out hB3.out (Nat.le_refl _)⟩
        · rw [h3] at hT2
          clear ho2
          go_wp2_with fail
          go_returns
          exact ⟨by have := hT2.out; rw [← this]; first | rfl | (simp [*]; done) | (simp [*]; rfl), mono_bel hB1.out hB2.out (Nat.le_refl _)⟩
      | false =>
        go_wp2_with fail
        refine hq.mono ?_
        clear hq
        rintro e w1 ⟨rfl, hb1⟩
        have hB2 := Box.mk (mono_bel hB.out hb1 (Nat.le_refl _))
        have m13 := blk_cell hB2.out hlt s13
        have m14 := blk_cell hB2.out hlt s14
        clear hb1 hB k11 k12 k13 k14 s13 s14
        go_wp2_with fail
        go_returns
        exact ⟨by have := hT2.out; rw [← this]; first | rfl | (simp [*]; done) | (simp [*]; rfl), mono_bel hB1.out hB2.out (Nat.le_refl _)⟩
set_option maxHeartbeats 3200000 in
set_option maxRecDepth 100000 in
theorem norules_any (d : Dc) (z : Sl) (w : World) :
    Calls Tryz.prog 110 #[docV d z] w fun e w' => e = .returned (.bool (noRu d.f)) ∧ Below w.heap.size w w' := by
  obtain ⟨W1, hW1, hB1, hS1⟩ := doc_new w d z 46
  have hlt := hS1.lt
  obtain ⟨-, -, -, s3, s4, s5, s6, s7, s8, s9, s10, s11, s12, s13, s14, -⟩ := doc_cells hS1
  obtain ⟨b0, hb0⟩ : ∃ b, noS d.f.r0 = b := ⟨_, rfl⟩
  have q0 := noset_at d.f.r0 z.a0
  rw [hb0] at q0
  obtain ⟨b1, hb1⟩ : ∃ b, noS d.f.r1 = b := ⟨_, rfl⟩
  have q1 := noset_at d.f.r1 z.a1
  rw [hb1] at q1
  obtain ⟨b2, hb2⟩ : ∃ b, noS d.f.r2 = b := ⟨_, rfl⟩
  have q2 := noset_at d.f.r2 z.a2
  rw [hb2] at q2
  obtain ⟨b3, hb3⟩ : ∃ b, noS d.f.r3 = b := ⟨_, rfl⟩
  have q3 := noset_at d.f.r3 z.a3
  rw [hb3] at q3
  obtain ⟨b4, hb4⟩ : ∃ b, noS d.f.wt = b := ⟨_, rfl⟩
  have q4 := noset_at d.f.wt z.aw
  rw [hb4] at q4
  have eR : noRu d.f = fr b0 b1 b2 b3 (b4 && ((d.f.lg.toList == []) && (d.f.og.toList == []))) 0 := by unfold noRu; rw [hb0, hb1, hb2, hb3, hb4, beq_b, beq_b]; rfl
  clear hS1 hb0 hb1 hb2 hb3 hb4
  rw [eR]
  clear eR
  generalize hT : (b4 && _) = T
  replace q0 := Box.mk q0
  replace q1 := Box.mk q1
  replace q2 := Box.mk q2
  replace q3 := Box.mk q3
  replace q4 := Box.mk q4
  obtain ⟨R, hR⟩ : ∃ R, fr b0 b1 b2 b3 T 0 = R := ⟨_, rfl⟩
  rw [hR]
  replace hR := Box.mk hR
  replace hT := Box.mk hT
  have hB0 : Box (Below W1.heap.size W1 W1) := ⟨Below.refl _ _⟩
  unfold docV docL at *
  go_enter Tryz.func110, Tryz.ntmps110
  go_wp2_with fail
  go_loopw [7] (fun q wr => ∃ i : Nat, i ≤ 4 ∧ q = .int .i64 (i : Int) ∧ Box (fr b0 b1 b2 b3 T i = R) ∧ Box (Below W1.heap.size W1 wr)) (fun q _ => 4 - (intOf q).toNat)
  case atStart => exact ⟨0, by omega, rfl, hR, hB0⟩
  case round =>
    clear hB0 hR
    obtain ⟨i, hi, rfl, hA, hB⟩ := hrel
    rcases (show i = 0 ∨ i = 1 ∨ i = 2 ∨ i = 3 ∨ i = 4 by omega) with rfl | rfl | rfl | rfl | rfl
    · clear hi
      have hA1 : Box (Below W1.heap.size W1 (wr.alloc (.cells #[.slice z.a0.1 d.f.r0.1.length z.a0.2, .int .i64 d.f.r0.2] 42))) := ⟨hB.out.alloc (by have := hB.out.size; omega) _⟩
      have hix := idx_0 (.slice z.a0.1 d.f.r0.1.length z.a0.2) (.int .i64 d.f.r0.2) (.slice z.a1.1 d.f.r1.1.length z.a1.2) (.int .i64 d.f.r1.2) (.slice z.a2.1 d.f.r2.1.length z.a2.2) (.int .i64 d.f.r2.2) (.slice z.a3.1 d.f.r3.1.length z.a3.2) (.int .i64 d.f.r3.2) wr
      have hq := q0.out (wr.alloc (.cells #[.slice z.a0.1 d.f.r0.1.length z.a0.2, .int .i64 d.f.r0.2] 42))
      cases b0 with
      | true =>
        go_wp2_with fail
        refine hq.mono ?_
        clear hq
        rintro e w1 ⟨rfl, hb1⟩
        have hB2 := Box.mk (mono_bel hA1.out hb1 (Nat.le_refl _))
        clear hb1 hA1
        go_wp2_with fail
        exact ⟨⟨1, by omega, rfl, ⟨by have := hA.out; simpa [fr] using this⟩, hB2⟩, by simp [intOf]⟩
      | false =>
        go_wp2_with fail
        refine hq.mono ?_
        clear hq
        rintro e w1 ⟨rfl, hb1⟩
        have hB2 := Box.mk (mono_bel hA1.out hb1 (Nat.le_refl _))
        clear hb1 hA1
        go_wp2_with fail
        go_returns
        exact ⟨by have := hA.out; simp [fr] at this; rw [← this]; rfl, mono_bel hB1.out hB2.out (Nat.le_refl _)⟩
    · clear hi
      have hA1 : Box (Below W1.heap.size W1 (wr.alloc (.cells #[.slice z.a1.1 d.f.r1.1.length z.a1.2, .int .i64 d.f.r1.2] 42))) := ⟨hB.out.alloc (by have := hB.out.size; omega) _⟩
      have hix := idx_1 (.slice z.a0.1 d.f.r0.1.length z.a0.2) (.int .i64 d.f.r0.2) (.slice z.a1.1 d.f.r1.1.length z.a1.2) (.int .i64 d.f.r1.2) (.slice z.a2.1 d.f.r2.1.length z.a2.2) (.int .i64 d.f.r2.2) (.slice z.a3.1 d.f.r3.1.length z.a3.2) (.int .i64 d.f.r3.2) wr
      have hq := q1.out (wr.alloc (.cells #[.slice z.a1.1 d.f.r1.1.length z.a1.2, .int .i64 d.f.r1.2] 42))
      cases b1 with
      | true =>
        go_wp2_with fail
        refine hq.mono ?_
        clear hq
        rintro e w1 ⟨rfl, hb1⟩
        have hB2 := Box.mk (mono_bel hA1.out hb1 (Nat.le_refl _))
        clear hb1 hA1
        go_wp2_with fail
        exact ⟨⟨2, by omega, rfl, ⟨by have := hA.out; simpa [fr] using this⟩, hB2⟩, by simp [intOf]⟩
      | false =>
        go_wp2_with fail
        refine hq.mono ?_
        clear hq
        rintro e w1 ⟨rfl, hb1⟩
        have hB2 := Box.mk (mono_bel hA1.out hb1 (Nat.le_refl _))
        clear hb1 hA1
        go_wp2_with fail
        go_returns
        exact ⟨by have := hA.out; simp [fr] at this; rw [← this]; rfl, mono_bel hB1.out hB2.out (Nat.le_refl _)⟩
    · clear hi
      have hA1 : Box (Below W1.heap.size W1 (wr.alloc (.cells #[.slice z.a2.1 d.f.r2.1.length z.a2.2, .int .i64 d.f.r2.2] 42))) := ⟨hB.out.alloc (by have := hB.out.size; omega) _⟩
      have hix := idx_2 (.slice z.a0.1 d.f.r0.1.length z.a0.2) (.int .i64 d.f.r0.2) (.slice z.a1.1 d.f.r1.1.length z.a1.2) (.int .i64 d.f.r1.2) (.slice z.a2.1 d.f.r2.1.length z.a2.2) (.int .i64 d.f.r2.2) (.slice z.a3.1 d.f.r3.1.length z.a3.2) (.int .i64 d.f.r3.2) wr
      have hq := q2.out (wr.alloc (.cells #[.slice z.a2.1 d.f.r2.1.length z.a2.2, .int .i64 d.f.r2.2] 42))
      cases b2 with
      | true =>
        go_wp2_with fail
        refine hq.mono ?_
        clear hq
        rintro e w1 ⟨rfl, hb1⟩
        have hB2 := Box.mk (mono_bel hA1.out hb1 (Nat.le_refl _))
        clear hb1 hA1
        go_wp2_with fail
        exact ⟨⟨3, by omega, rfl, ⟨by have := hA.out; simpa [fr] using this⟩, hB2⟩, by simp [intOf]⟩
      | false =>
        go_wp2_with fail
        refine hq.mono ?_
        clear hq
        rintro e w1 ⟨rfl, hb1⟩
        have hB2 := Box.mk (mono_bel hA1.out hb1 (Nat.le_refl _))
        clear hb1 hA1
        go_wp2_with fail
        go_returns
        exact ⟨by have := hA.out; simp [fr] at this; rw [← this]; rfl, mono_bel hB1.out hB2.out (Nat.le_refl _)⟩
    · clear hi
      have hA1 : Box (Below W1.heap.size W1 (wr.alloc (.cells #[.slice z.a3.1 d.f.r3.1.length z.a3.2, .int .i64 d.f.r3.2] 42))) := ⟨hB.out.alloc (by have := hB.out.size; omega) _⟩
      have hix := idx_3 (.slice z.a0.1 d.f.r0.1.length z.a0.2) (.int .i64 d.f.r0.2) (.slice z.a1.1 d.f.r1.1.length z.a1.2) (.int .i64 d.f.r1.2) (.slice z.a2.1 d.f.r2.1.length z.a2.2) (.int .i64 d.f.r2.2) (.slice z.a3.1 d.f.r3.1.length z.a3.2) (.int .i64 d.f.r3.2) wr
      have hq := q3.out (wr.alloc (.cells #[.slice z.a3.1 d.f.r3.1.length z.a3.2, .int .i64 d.f.r3.2] 42))
      cases b3 with
      | true =>
        go_wp2_with fail
        refine hq.mono ?_
        clear hq
        rintro e w1 ⟨rfl, hb1⟩
        have hB2 := Box.mk (mono_bel hA1.out hb1 (Nat.le_refl _))
        clear hb1 hA1
        go_wp2_with fail
        exact ⟨⟨4, by omega, rfl, ⟨by have := hA.out; simpa [fr] using this⟩, hB2⟩, by simp [intOf]⟩
      | false =>
        go_wp2_with fail
        refine hq.mono ?_
        clear hq
        rintro e w1 ⟨rfl, hb1⟩
        have hB2 := Box.mk (mono_bel hA1.out hb1 (Nat.le_refl _))
        clear hb1 hA1
        go_wp2_with fail
        go_returns
        exact ⟨by have := hA.out; simp [fr] at this; rw [← this]; rfl, mono_bel hB1.out hB2.out (Nat.le_refl _)⟩
    · clear hi
      have k11 := blk_cell hB.out hlt s11
      have k12 := blk_cell hB.out hlt s12
      have k13 := blk_cell hB.out hlt s13
      have k14 := blk_cell hB.out hlt s14
      have hTR : Box (T = R) := ⟨by have := hA.out; simpa [fr] using this⟩
      have hT2 := hT.out
      rw [hTR.out] at hT2
      replace hT2 := Box.mk hT2
      clear hA hT hTR
      have hq := q4.out wr
      clear s3 s4 s5 s6 s7 s8 s9 s10 s11 s12  q0 q1 q2 q3 q4
      cases b4 with
      | true =>
        go_wp2_with fail
        refine hq.mono ?_
        clear hq
        rintro e w1 ⟨rfl, hb1⟩
        have hB2 := Box.mk (mono_bel hB.out hb1 (Nat.le_refl _))
        have m13 := blk_cell hB2.out hlt s13
        have m14 := blk_cell hB2.out hlt s14
        clear hb1 hB k11 k12 k13 k14 s13 s14
        rcases Bool.eq_false_or_eq_true (d.f.lg.toList == []) with h3 | h3
        · rw [h3] at hT2
          go_wp2_with fail
          go_returns
          exact ⟨by have := hT2.out; rw [← this]; first | rfl | (simp [*]; done) | (simp [*]; rfl), mono_bel hB1.out hB2.out (Nat.le_refl _)⟩
        · rw [h3] at hT2
          go_wp2_with fail
          go_returns
          exact ⟨by have := hT2.out; rw [← this]; first | rfl | (simp [*]; done) | (simp [*]; rfl), mono_bel hB1.out hB2.out (Nat.le_refl _)⟩
      | false =>
        go_wp2_with fail
        refine hq.mono ?_
        clear hq
        rintro e w1 ⟨rfl, hb1⟩
        have hB2 := Box.mk (mono_bel hB.out hb1 (Nat.le_refl _))
        have m13 := blk_cell hB2.out hlt s13
        have m14 := blk_cell hB2.out hlt s14
        clear hb1 hB k11 k12 k13 k14 s13 s14
        go_wp2_with fail
        go_returns
        exact ⟨by have := hT2.out; rw [← this]; first | rfl | (simp [*]; done) | (simp [*]; rfl), mono_bel hB1.out hB2.out (Nat.le_refl _)⟩
end Go.Proofs.YthkfefkcjcgfkaaGreatDoor.Me
