/- The program's device in memory; its small calls. -/
import Derived.Test.YtoaipjpbioaneaaGreatFlA
import Derived.Test.YtoaipjpbioaneaaGreatFlM
namespace Go.Proofs.YtoaipjpbioaneaaGreat
open Go.RowKit

def Wr.cells (x : Wr) : List Value := .int .i64 (x.at' : Int) :: (x.bef.map yc ++ x.aft.map yc)
def secCells (s : List Sec) : List Value := s.flatMap fun x => x.map yc
def wrCells (l : List Wr) : List Value := l.flatMap Wr.cells
/-- A device in block bd; all that is its own lies in F. -/
structure DAt (w : World) (bd : Nat) (F : Nat → Prop) (D : Dev) : Prop where
  ok : D.ok
  out : ∃ vs vp, Blk w bd [vs, vp, .int .i64 (D.taken : Int), .int .i64 (D.fall : Int), .bool D.off] 73 ∧ Row w 81 64 vs D.safe.length (secCells D.seen) ∧ Row w 83 129 vp D.ws.length (wrCells (pendW D.safe D.ws)) ∧ (∀ k, vs.ownBlock = some k → F k) ∧ (∀ k, vp.ownBlock = some k → F k)
  fd : F bd
  lt : ∀ k, F k → k < w.heap.size
theorem DAt.chg {S : Nat → Prop} {w w' : World} {bd : Nat} {F : Nat → Prop} {D : Dev} (h : DAt w bd F D) (hc : Chg S w w') (hn : ∀ k, F k → ¬ S k) : DAt w' bd F D := by
  obtain ⟨vs, vp, hb, hs, hp, h1, h2⟩ := h.out
  exact ⟨h.ok, ⟨vs, vp, hc.blk hb (hn _ h.fd), hs.chg hc fun k hk => hn k (h1 k hk), hp.chg hc fun k hk => hn k (h2 k hk), h1, h2⟩, h.fd, fun k hk => Nat.lt_of_lt_of_le (h.lt k hk) hc.size⟩
theorem DAt.below {w w' : World} {bd : Nat} {F : Nat → Prop} {D : Dev} (h : DAt w bd F D) (hb : Below w.heap.size w w') : DAt w' bd F D := h.chg (Chg.of_below hb) fun k hk => by have := h.lt k hk; omega
/-- What a call of a device leaves. -/
structure DNext (w : World) (bd : Nat) (F : Nat → Prop) (D : Dev) (w' : World) : Prop where
  at_ : DAt w' bd (fun k => F k ∨ (w.heap.size ≤ k ∧ k < w'.heap.size)) D
  chg : Chg F w w'
theorem DAt.wide {w : World} {bd : Nat} {F G : Nat → Prop} {D : Dev} (h : DAt w bd F D) (hG : ∀ k, F k → G k) (hl : ∀ k, G k → k < w.heap.size) : DAt w bd G D := by
  obtain ⟨vs, vp, hb, hs, hp, h1, h2⟩ := h.out
  exact ⟨h.ok, ⟨vs, vp, hb, hs, hp, fun k hk => hG k (h1 k hk), fun k hk => hG k (h2 k hk)⟩, hG _ h.fd, hl⟩
theorem DNext.same {w : World} {bd : Nat} {F : Nat → Prop} {D : Dev} (h : DAt w bd F D) : DNext w bd F D w :=
  ⟨h.wide (fun _ hk => .inl hk) fun k hk => by rcases hk with hk | hk; exact h.lt k hk; exact hk.2, Chg.refl _ _⟩

set_option maxHeartbeats 400000 in
theorem refused_nil (n : Int) (w : World) :
    Calls Tryz.prog 46 #[.pointer none, .int .i64 n] w fun e w' => e = .returned (.int .i64 1) ∧ w = w' := by
  go_enter Tryz.func46, Tryz.ntmps46
  go_wp2
  go_ret
  exact ⟨rfl, rfl⟩
theorem ret_i {k : IntKind} {a b : Int} (h : a = b) : Ending.returned (.int k a) = .returned (.int k b) := by rw [h]
theorem Row.slice {w : World} {e : TypeId} {size : Nat} {v : Value} {n : Nat} {xs : List Value} (h : Row w e size v n xs) : ∃ a c, v = .slice a n c := h.shape
set_option maxHeartbeats 400000 in
theorem refused_any (bd : Nat) (F : Nat → Prop) (D : Dev) (n : Int) (w : World) (h : DAt w bd F D) :
    Calls Tryz.prog 46 #[.pointer (some ⟨bd, 0, none⟩), .int .i64 n] w fun e w' => e = .returned (.int .i64 (D.refused n)) ∧ w = w' := by
  obtain ⟨vs, vp, hb, hs, _, _, _⟩ := h.out
  obtain ⟨a, c, rfl⟩ := hs.shape
  have c4 : w.cell? ⟨bd, 4, none⟩ = some (.bool D.off) := hb.cell 4
  have c0 : w.cell? ⟨bd, 0, none⟩ = some (.slice a D.safe.length c) := hb.cell 0
  unfold Dev.refused
  generalize D.off = off at *
  generalize D.safe.length = N at *
  clear hb hs h
  cases off
  · by_cases hn : n < 0
    · go_enter Tryz.func46, Tryz.ntmps46
      go_wp2
      go_ret
      exact ⟨ret_i (by simp), rfl⟩
    · by_cases hN : (N : Int) ≤ n
      · go_enter Tryz.func46, Tryz.ntmps46
        go_wp2
        go_ret
        exact ⟨ret_i (by simp), rfl⟩
      · go_enter Tryz.func46, Tryz.ntmps46
        go_wp2
        go_ret
        exact ⟨ret_i (by simp), rfl⟩
  · go_enter Tryz.func46, Tryz.ntmps46
    go_wp2
    go_ret
    exact ⟨ret_i (by simp), rfl⟩

theorem chg2 (w : World) (bd i j : Nat) (u v : Value) : Chg (fun k => k = bd) w ((w.setCell ⟨bd, i, none⟩ u).setCell ⟨bd, j, none⟩ v) :=
  Chg.setCell (S := fun k => k = bd) (p := ⟨bd, j, none⟩) (Chg.setCell (S := fun k => k = bd) (p := ⟨bd, i, none⟩) (Chg.refl _ _) rfl _) rfl _
theorem chg1 (w : World) (bd i : Nat) (u : Value) : Chg (fun k => k = bd) w (w.setCell ⟨bd, i, none⟩ u) := Chg.setCell (S := fun k => k = bd) (p := ⟨bd, i, none⟩) (Chg.refl _ _) rfl _
/-- Three numbers: what a step changes. -/
theorem DAt.three {w w' : World} {bd : Nat} {F : Nat → Prop} {D D' : Dev} (h : DAt w bd F D) (hs : D'.safe = D.safe) (hw : D'.ws = D.ws)
    (hb : ∀ vs vp, Blk w bd [vs, vp, .int .i64 (D.taken : Int), .int .i64 (D.fall : Int), .bool D.off] 73 → Blk w' bd [vs, vp, .int .i64 (D'.taken : Int), .int .i64 (D'.fall : Int), .bool D'.off] 73)
    (hc : Chg (fun k => k = bd) w w') : DAt w' bd F D' := by
  obtain ⟨vs, vp, hb0, h1, h2, h3, h4⟩ := h.out
  refine ⟨⟨hs ▸ h.ok.s, by rw [hs, hw]; exact h.ok.w, by rw [hs]; exact h.ok.n⟩, ⟨vs, vp, hb vs vp hb0, ?_, ?_, h3, h4⟩, h.fd, fun k hk => Nat.lt_of_lt_of_le (h.lt k hk) hc.size⟩
  · rw [show D'.seen = D.seen by unfold Dev.seen; rw [hs, hw], hs]
    exact h1.chg hc fun k hk => by rintro rfl; exact h1.apart hb0 (by decide) hk
  · rw [hs, hw]
    exact h2.chg hc fun k hk => by rintro rfl; exact h2.apart hb0 (by decide) hk
set_option maxHeartbeats 800000 in
theorem step_any (bd : Nat) (F : Nat → Prop) (D : Dev) (w : World) (h : DAt w bd F D) (ht : D.taken ≤ 1000000) (hf : D.fall ≤ 9223372036854775807) :
    Calls Tryz.prog 47 #[.pointer (some ⟨bd, 0, none⟩)] w fun e w' => e = .returned (.bool D.goes) ∧ DAt w' bd F D.stepD ∧ Chg (fun k => k = bd) w w' ∧ w'.heap.size = w.heap.size := by
  obtain ⟨vs, vp, hb, _, _, _, _⟩ := h.out
  have c2 : w.cell? ⟨bd, 2, none⟩ = some (.int .i64 (D.taken : Int)) := hb.cell 2
  have c3 : w.cell? ⟨bd, 3, none⟩ = some (.int .i64 (D.fall : Int)) := hb.cell 3
  have c4 : w.cell? ⟨bd, 4, none⟩ = some (.bool D.off) := hb.cell 4
  have f2 := hb.free 2
  have f3 := hb.free 3
  have f4 := hb.free 4
  clear hb
  by_cases h1 : D.fall = 1
  · have hg : D.goes = false := by simp [Dev.goes, h1]
    have hS : D.stepD = { D with fall := 0, off := true } := by simp [Dev.stepD, h1]
    have hd : (((D.fall : Nat) : Int) == 1) = true := by rw [h1]; rfl
    have hR : DAt ((w.setCell ⟨bd, 3, none⟩ (.int .i64 0)).setCell ⟨bd, 4, none⟩ (.bool true)) bd F D.stepD := by
      refine h.three (by rw [hS]) (by rw [hS]) (fun vs vp hb => ?_) ?_
      · rw [hS]; exact (hb.setCell 3 (.int .i64 0)).setCell 4 (.bool true)
      · exact chg2 _ _ _ _ _ _
    have hC : Chg (fun k => k = bd) w ((w.setCell ⟨bd, 3, none⟩ (.int .i64 0)).setCell ⟨bd, 4, none⟩ (.bool true)) := chg2 _ _ _ _ _ _
    rw [hg]
    replace hR := Box.mk hR
    replace hC := Box.mk hC
    replace hg := Box.mk hg
    replace hS := Box.mk hS
    replace h1 := Box.mk h1
    replace h := Box.mk h
    generalize D.fall = fl at *
    generalize D.taken = tk at *
    generalize D.off = of at *
    go_enter Tryz.func47, Tryz.ntmps47
    go_wp2
    go_ret
    exact ⟨rfl, hR.out, hC.out, by simp⟩
  · have hg : D.goes = true := by simp [Dev.goes, h1]
    have hS : D.stepD = { D with fall := D.fall - 1, taken := D.taken + 1 } := by simp [Dev.stepD, h1]
    have hR : DAt ((w.setCell ⟨bd, 3, none⟩ (.int .i64 ((D.fall - 1 : Nat) : Int))).setCell ⟨bd, 2, none⟩ (.int .i64 ((D.taken : Int) + 1))) bd F D.stepD := by
      refine h.three (by rw [hS]) (by rw [hS]) (fun vs vp hb => ?_) ?_
      · rw [hS]; exact (hb.setCell 3 _).setCell 2 _
      · exact chg2 _ _ _ _ _ _
    have hC : Chg (fun k => k = bd) w ((w.setCell ⟨bd, 3, none⟩ (.int .i64 ((D.fall - 1 : Nat) : Int))).setCell ⟨bd, 2, none⟩ (.int .i64 ((D.taken : Int) + 1))) := chg2 _ _ _ _ _ _
    rw [hg]
    replace hR := Box.mk hR
    replace hC := Box.mk hC
    replace hg := Box.mk hg
    replace hS := Box.mk hS
    replace h := Box.mk h
    generalize D.fall = fl at *
    generalize D.taken = tk at *
    generalize D.off = of at *
    by_cases h0 : fl = 0
    · subst h0
      go_enter Tryz.func47, Tryz.ntmps47
      go_wp2
      go_ret
      exact ⟨rfl, hR.out, hC.out, by simp⟩
    · have hd : ((fl : Int) == 1) = false := by rw [beq_eq_false_iff_ne]; omega
      have h2 : 2 ≤ fl := by omega
      have he : ((fl - 1 : Nat) : Int) = (fl : Int) - 1 := by omega
      rw [he] at hR hC
      clear he
      go_enter Tryz.func47, Tryz.ntmps47
      go_wp2
      go_ret
      exact ⟨rfl, hR.out, hC.out, by simp⟩

set_option maxHeartbeats 400000 in
theorem sectors_any (bd : Nat) (F : Nat → Prop) (D : Dev) (w : World) (h : DAt w bd F D) :
    Calls Tryz.prog 40 #[.pointer (some ⟨bd, 0, none⟩)] w fun e w' => e = .returned (.int .i64 (D.safe.length : Int)) ∧ w = w' := by
  obtain ⟨vs, vp, hb, hs, _, _, _⟩ := h.out
  obtain ⟨a, c, rfl⟩ := hs.shape
  have c0 : w.cell? ⟨bd, 0, none⟩ = some (.slice a D.safe.length c) := hb.cell 0
  generalize D.safe.length = N at *
  clear hb hs h
  go_enter Tryz.func40, Tryz.ntmps40
  go_wp2
  go_ret
  exact ⟨rfl, rfl⟩
set_option maxHeartbeats 400000 in
theorem steps_any (bd : Nat) (F : Nat → Prop) (D : Dev) (w : World) (h : DAt w bd F D) :
    Calls Tryz.prog 18 #[.pointer (some ⟨bd, 0, none⟩)] w fun e w' => e = .returned (.int .i64 (D.taken : Int)) ∧ w = w' := by
  obtain ⟨vs, vp, hb, _, _, _, _⟩ := h.out
  have c0 : w.cell? ⟨bd, 2, none⟩ = some (.int .i64 (D.taken : Int)) := hb.cell 2
  clear hb h
  go_enter Tryz.func18, Tryz.ntmps18
  go_wp2
  go_ret
  exact ⟨rfl, rfl⟩
set_option maxHeartbeats 400000 in
theorem off_any (bd : Nat) (F : Nat → Prop) (D : Dev) (w : World) (h : DAt w bd F D) :
    Calls Tryz.prog 41 #[.pointer (some ⟨bd, 0, none⟩)] w fun e w' => e = .returned (.bool D.off) ∧ w = w' := by
  obtain ⟨vs, vp, hb, _, _, _, _⟩ := h.out
  have c0 : w.cell? ⟨bd, 4, none⟩ = some (.bool D.off) := hb.cell 4
  clear hb h
  go_enter Tryz.func41, Tryz.ntmps41
  go_wp2
  go_ret
  exact ⟨rfl, rfl⟩
set_option maxHeartbeats 400000 in
theorem fall_any (bd : Nat) (F : Nat → Prop) (D : Dev) (n : Int) (w : World) (h : DAt w bd F D) (hn : -9223372036854775808 ≤ n ∧ n ≤ 9223372036854775807) :
    Calls Tryz.prog 10 #[.pointer (some ⟨bd, 0, none⟩), .int .i64 n] w fun e w' => e = .returned (.tuple #[]) ∧ DAt w' bd F (D.falls n) ∧ Chg (fun k => k = bd) w w' := by
  obtain ⟨vs, vp, hb, _, _, _, _⟩ := h.out
  have c3 : w.cell? ⟨bd, 3, none⟩ = some (.int .i64 (D.fall : Int)) := hb.cell 3
  have f3 := hb.free 3
  clear hb
  have hR : DAt (w.setCell ⟨bd, 3, none⟩ (.int .i64 (max n 0))) bd F (D.falls n) :=
    h.three rfl rfl (fun vs vp hb => by
      have := hb.setCell 3 (.int .i64 (max n 0))
      simpa [Dev.falls, show ((max n 0).toNat : Int) = max n 0 by omega] using this) (chg1 _ _ _ _)
  have hC := chg1 w bd 3 (.int .i64 (max n 0))
  replace h := Box.mk h
  by_cases h0 : n < 0
  · rw [Int.max_eq_right (by omega)] at hR hC
    replace hR := Box.mk hR
    replace hC := Box.mk hC
    go_enter Tryz.func10, Tryz.ntmps10
    go_wp2
    go_returns
    exact ⟨rfl, hR.out, hC.out⟩
  · rw [Int.max_eq_left (by omega)] at hR hC
    replace hR := Box.mk hR
    replace hC := Box.mk hC
    go_enter Tryz.func10, Tryz.ntmps10
    go_wp2
    go_returns
    exact ⟨rfl, hR.out, hC.out⟩
end Go.Proofs.YtoaipjpbioaneaaGreat
