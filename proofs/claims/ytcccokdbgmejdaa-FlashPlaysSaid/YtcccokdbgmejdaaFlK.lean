/- Clone and Copy. -/
import Derived.Test.YtcccokdbgmejdaaFlJ
namespace Go.Proofs.Ytcccokdbgmejdaa
open Go.RowKit

/-- What a clone of a row is. -/
def Cloned (w : World) (e : TypeId) (size n : Nat) (xs : List Value) (r : Ending) (w' : World) : Prop :=
  ∃ v', r = .returned v' ∧ Row w' e size v' n xs ∧ (∀ k, v'.ownBlock = some k → w.heap.size ≤ k) ∧ Below w.heap.size w w'
theorem cloned_of {w w1 w' : World} {e : TypeId} {size n : Nat} {xs : List Value} {v' : Value} {r : Ending} (hr : r = .returned v') (hown : w'.ownsRow w.heap.size e size v' n xs) (hb : Below w.heap.size w w1) (hg : w1.grownBy w' (some w.heap.size)) : Cloned w e size n xs r w' := by
  refine ⟨v', hr, ?_, fun k hk => (hown.lt k hk).1, hb.grown hg hb.size (fun k hk => by cases hk; exact Nat.le_refl _)⟩
  obtain ⟨x1, x2⟩ := hown
  exact ⟨x1, x2.imp id (fun ⟨g, cap, cur, e1, _, e3⟩ => ⟨g, cap, cur, e1, Nat.zero_le _, e3⟩)⟩
theorem cloneS_nil (n c : Nat) (w : World) : Calls Try.prog 36 #[.slice none n c] w fun e w' => e = .returned (.slice none 0 0) ∧ w = w' := by
  have q22 : ∀ (w : World) (a : Option Addr) (n c : Nat), (binOp .eql 68 (.slice a n c) (.slice none 0 0)).run Try.prog w = .ok (.bool a.isNone) w := fun w a n c => run_eql_slice_nil w _ _ a n c Try.underlying68
  go_enter Try.func36, Try.ntmps36
  go_wp2_with fail
  go_ret
  exact ⟨rfl, rfl⟩
set_option maxHeartbeats 1600000 in
theorem cloneS_some (g n c : Nat) (xs : List Value) (w : World) (h : Row w 74 64 (.slice (some ⟨g, 0, none⟩) n c) n xs) (hn : n ≤ 1000000) (h1 : ∀ u ∈ xs, u.oneCell' = true) :
    Calls Try.prog 36 #[.slice (some ⟨g, 0, none⟩) n c] w (Cloned w 74 64 n xs) := by
  obtain ⟨iW, zW, hiW, hzW, hiW1, hiW2, hLW⟩ := info_cells infoS
  have hH := Box.mk (And.intro hiW (And.intro hzW (And.intro hiW1 (And.intro hiW2 hLW))))
  have hzs : Box (zW.cells.size = 64) := ⟨by rw [hLW]; simp⟩
  clear hiW hzW hiW1 hiW2 hLW
  obtain ⟨w1, hw1⟩ : ∃ w1, w.alloc (.cells #[] 74) = w1 := ⟨_, rfl⟩
  have hb1 : Box (Below w.heap.size w w1) := ⟨hw1 ▸ (Below.refl _ _).alloc (Nat.le_refl _) _⟩
  have hown1 : Box (w1.ownsRow w.heap.size 74 64 (.slice (some ⟨w.heap.size, 0, none⟩) 0 0) 0 []) := ⟨hw1 ▸ World.ownsRow_made w #[] 0 (Nat.le_refl _) (Nat.zero_le _) (by simp)⟩
  have hl := h.1
  have hc1 : Box (∀ j u, xs[j]? = some u → w1.cell? ((⟨g, 0, none⟩ : Addr).add j) = some u) := ⟨fun j u hj => by
    rw [Addr.add_mid, Nat.zero_add, hb1.out.cell (p := ⟨g, j, none⟩) (h.lt g rfl)]
    exact h.cells j u hj⟩
  replace h := Box.mk h
  replace h1 := Box.mk h1
  replace hl := Box.mk hl
  have q22 : ∀ (w : World) (a : Option Addr) (n c : Nat), (binOp .eql 68 (.slice a n c) (.slice none 0 0)).run Try.prog w = .ok (.bool a.isNone) w := fun w a n c => run_eql_slice_nil w _ _ a n c Try.underlying68
  go_enter Try.func36, Try.ntmps36
  go_wp2_with (at_builtin; refine wpList_append_own _ rfl (.tmp 5) (.tmp 6) 68 rfl w.heap.size 74 iW zW 64 64 Try.underlying68 hH.out.1 hH.out.2.1 hH.out.2.2.1 hH.out.2.2.2.1 hzs.out (by omega) (.slice (some ⟨w.heap.size, 0, none⟩) 0 0) 0 [] rfl hown1.out ⟨g, 0, none⟩ n c xs rfl hl.out hc1.out h1.out (by unfold maxLen; omega) (by omega) hb1.out.size ?_; intro v' w2 hown2 hg2 _; have hR := Box.mk (cloned_of (r := .returned v') rfl hown2 hb1.out hg2); clear hown2 hg2)
  go_ret
  simpa using hR.out
theorem cloneS_any (a : Option Addr) (n c : Nat) (xs : List Value) (w : World) (h : Row w 74 64 (.slice a n c) n xs) (hn : n ≤ 1000000) (h1 : ∀ u ∈ xs, u.oneCell' = true) :
    Calls Try.prog 36 #[.slice a n c] w (Cloned w 74 64 n xs) := by
  have h2 := h
  obtain ⟨hx, ⟨e1, rfl⟩ | ⟨g, cap, cur, e1, _⟩⟩ := h2
  · cases e1
    obtain rfl : xs = [] := List.eq_nil_of_length_eq_zero (by simpa using hx)
    exact (cloneS_nil 0 0 w).mono fun e w' ⟨a, b⟩ => ⟨_, a, Row.nil _ _ _, (fun k hk => by cases hk), (by rw [← b]; exact Below.refl _ _)⟩
  · cases e1
    exact cloneS_some g n c xs w h hn h1
theorem cloneW_nil (n c : Nat) (w : World) : Calls Try.prog 37 #[.slice none n c] w fun e w' => e = .returned (.slice none 0 0) ∧ w = w' := by
  have q22 : ∀ (w : World) (a : Option Addr) (n c : Nat), (binOp .eql 69 (.slice a n c) (.slice none 0 0)).run Try.prog w = .ok (.bool a.isNone) w := fun w a n c => run_eql_slice_nil w _ _ a n c Try.underlying69
  go_enter Try.func37, Try.ntmps37
  go_wp2_with fail
  go_ret
  exact ⟨rfl, rfl⟩
set_option maxHeartbeats 1600000 in
theorem cloneW_some (g n c : Nat) (xs : List Value) (w : World) (h : Row w 76 129 (.slice (some ⟨g, 0, none⟩) n c) n xs) (hn : n ≤ 1000000) (h1 : ∀ u ∈ xs, u.oneCell' = true) :
    Calls Try.prog 37 #[.slice (some ⟨g, 0, none⟩) n c] w (Cloned w 76 129 n xs) := by
  obtain ⟨iW, zW, hiW, hzW, hiW1, hiW2, hLW⟩ := info_cells infoW
  have hH := Box.mk (And.intro hiW (And.intro hzW (And.intro hiW1 (And.intro hiW2 hLW))))
  have hzs : Box (zW.cells.size = 129) := ⟨by rw [hLW]; simp [zeroW_length]⟩
  clear hiW hzW hiW1 hiW2 hLW
  obtain ⟨w1, hw1⟩ : ∃ w1, w.alloc (.cells #[] 76) = w1 := ⟨_, rfl⟩
  have hb1 : Box (Below w.heap.size w w1) := ⟨hw1 ▸ (Below.refl _ _).alloc (Nat.le_refl _) _⟩
  have hown1 : Box (w1.ownsRow w.heap.size 76 129 (.slice (some ⟨w.heap.size, 0, none⟩) 0 0) 0 []) := ⟨hw1 ▸ World.ownsRow_made w #[] 0 (Nat.le_refl _) (Nat.zero_le _) (by simp)⟩
  have hl := h.1
  have hc1 : Box (∀ j u, xs[j]? = some u → w1.cell? ((⟨g, 0, none⟩ : Addr).add j) = some u) := ⟨fun j u hj => by
    rw [Addr.add_mid, Nat.zero_add, hb1.out.cell (p := ⟨g, j, none⟩) (h.lt g rfl)]
    exact h.cells j u hj⟩
  replace h := Box.mk h
  replace h1 := Box.mk h1
  replace hl := Box.mk hl
  have q22 : ∀ (w : World) (a : Option Addr) (n c : Nat), (binOp .eql 69 (.slice a n c) (.slice none 0 0)).run Try.prog w = .ok (.bool a.isNone) w := fun w a n c => run_eql_slice_nil w _ _ a n c Try.underlying69
  go_enter Try.func37, Try.ntmps37
  go_wp2_with (at_builtin; refine wpList_append_own _ rfl (.tmp 5) (.tmp 6) 69 rfl w.heap.size 76 iW zW 129 136 Try.underlying69 hH.out.1 hH.out.2.1 hH.out.2.2.1 hH.out.2.2.2.1 hzs.out (by omega) (.slice (some ⟨w.heap.size, 0, none⟩) 0 0) 0 [] rfl hown1.out ⟨g, 0, none⟩ n c xs rfl hl.out hc1.out h1.out (by unfold maxLen; omega) (by omega) hb1.out.size ?_; intro v' w2 hown2 hg2 _; have hR := Box.mk (cloned_of (r := .returned v') rfl hown2 hb1.out hg2); clear hown2 hg2)
  go_ret
  simpa using hR.out
theorem cloneW_any (a : Option Addr) (n c : Nat) (xs : List Value) (w : World) (h : Row w 76 129 (.slice a n c) n xs) (hn : n ≤ 1000000) (h1 : ∀ u ∈ xs, u.oneCell' = true) :
    Calls Try.prog 37 #[.slice a n c] w (Cloned w 76 129 n xs) := by
  have h2 := h
  obtain ⟨hx, ⟨e1, rfl⟩ | ⟨g, cap, cur, e1, _⟩⟩ := h2
  · cases e1
    obtain rfl : xs = [] := List.eq_nil_of_length_eq_zero (by simpa using hx)
    exact (cloneW_nil 0 0 w).mono fun e w' ⟨a, b⟩ => ⟨_, a, Row.nil _ _ _, (fun k hk => by cases hk), (by rw [← b]; exact Below.refl _ _)⟩
  · cases e1
    exact cloneW_some g n c xs w h hn h1
theorem secCells_one (s : List Sec) : ∀ u ∈ secCells s, u.oneCell' = true := by
  intro u hu
  simp only [secCells, List.mem_flatMap] at hu
  obtain ⟨x, _, hx⟩ := hu
  exact yc_one x u hx
theorem wrCells_one (l : List Wr) : ∀ u ∈ wrCells l, u.oneCell' = true := by
  intro u hu
  simp only [wrCells, List.mem_flatMap] at hu
  obtain ⟨x, _, hx⟩ := hu
  exact Wr.cells_one x u hx
/-- A copy of a device. -/
def CopyD (w : World) (D : Dev) (e : Ending) (w' : World) : Prop :=
  ∃ bc, e = .returned (.pointer (some ⟨bc, 0, none⟩)) ∧ DAt w' bc (fun k => w.heap.size ≤ k ∧ k < w'.heap.size) D ∧ Below w.heap.size w w'
set_option maxHeartbeats 1600000 in
set_option maxRecDepth 100000 in
theorem copy_any (bd : Nat) (F : Nat → Prop) (D : Dev) (w : World) (h : DAt w bd F D) (hws : D.ws.length ≤ 1000000) : Calls Try.prog 17 #[.pointer (some ⟨bd, 0, none⟩)] w (CopyD w D) := by
  obtain ⟨vs, vp, hb, hs, hp, hF1, hF2⟩ := h.out
  obtain ⟨sa, sc, rfl⟩ := hs.shape
  obtain ⟨pa, pc, rfl⟩ := hp.shape
  have hok := Box.mk h.ok
  have hn := h.ok.n
  have c0 : w.cell? ⟨bd, 0, none⟩ = some (.slice sa D.safe.length sc) := hb.cell 0
  have c1 : w.cell? ⟨bd, 1, none⟩ = some (.slice pa D.ws.length pc) := hb.cell 1
  have c2 : w.cell? ⟨bd, 2, none⟩ = some (.int .i64 (D.taken : Int)) := hb.cell 2
  have c3 : w.cell? ⟨bd, 3, none⟩ = some (.int .i64 (D.fall : Int)) := hb.cell 3
  have c4 : w.cell? ⟨bd, 4, none⟩ = some (.bool D.off) := hb.cell 4
  have hlt := hb.lt
  replace hb := Box.mk hb
  replace hs := Box.mk hs
  replace hp := Box.mk hp
  clear h hF1 hF2
  obtain ⟨w1, hw1⟩ : ∃ w1, w.alloc (.cells #[.slice sa D.safe.length sc, .slice pa D.ws.length pc, .int .i64 (D.taken : Int), .int .i64 (D.fall : Int), .bool D.off] 71) = w1 := ⟨_, rfl⟩
  have hnb := Blk.new w [.slice sa D.safe.length sc, .slice pa D.ws.length pc, .int .i64 (D.taken : Int), .int .i64 (D.fall : Int), .bool D.off] 71
  rw [hw1] at hnb
  obtain ⟨bc, hbc⟩ : ∃ bc, w.heap.size = bc := ⟨_, rfl⟩
  have hB1 : Below w.heap.size w w1 := hw1 ▸ (Below.refl _ _).alloc (Nat.le_refl _) _
  have hs1 := hs.out.kept (w' := w1) fun k hk => hB1.block k (hs.out.lt k hk)
  have hp1 := hp.out.kept (w' := w1) fun k hk => hB1.block k (hp.out.lt k hk)
  have hb1 : Blk w1 bd _ _ := (hB1.block bd hlt).trans hb.out
  have hCS := Box.mk (cloneS_any sa D.safe.length sc _ w1 hs1 (by omega) (secCells_one _))
  rw [hbc] at hnb
  have d0 : w1.cell? ⟨bd, 0, none⟩ = some (.slice sa D.safe.length sc) := hb1.cell 0
  replace hnb := Box.mk hnb
  replace hp1 := Box.mk hp1
  replace hb1 := Box.mk hb1
  replace hB1 := Box.mk hB1
  clear hs1
  go_enter Try.func17, Try.ntmps17
  go_wp2_with fail
  refine hCS.out.mono ?_
  rintro e w2 ⟨v2, rfl, hr2, hn2, hB2⟩
  obtain ⟨a2, k2, rfl⟩ := hr2.shape
  have hnb2 : Blk w2 bc _ _ := (hB2.block bc hnb.out.lt).trans hnb.out
  have x0 : w2.cell? ⟨bc, 0, none⟩ = some (.slice sa D.safe.length sc) := hnb2.cell 0
  have g0 := hnb2.free 0
  have hnb3 := hnb2.setCell 0 (.slice a2 D.safe.length k2)
  have hb2 : Blk w2 bd _ _ := (hB2.block bd hb1.out.lt).trans hb1.out
  have hp2 := hp1.out.kept (w' := w2) fun k hk => hB2.block k (hp1.out.lt k hk)
  have hc3 := chg1 w2 bc 0 (.slice a2 D.safe.length k2)
  have hne : bd ≠ bc := by omega
  have hr3 := hr2.chg hc3 (fun k hk e => by subst e; exact hr2.apart hnb2 (by decide) hk)
  have hp3 := hp2.chg hc3 (fun k hk e => by subst e; exact hp2.apart hnb2 (by decide) hk)
  have hb3 := hc3.blk hb2 hne
  obtain ⟨w3, hw3⟩ : ∃ w3, w2.setCell ⟨bc, 0, none⟩ (.slice a2 D.safe.length k2) = w3 := ⟨_, rfl⟩
  rw [hw3] at hnb3 hr3 hp3 hb3 hc3
  have hz1 := hB1.out.size
  have hB3 := Box.mk ((hB1.out.trans (hB2.mono hz1)).trans (hc3.below (B := w.heap.size) (by have := hB2.size; omega) (fun i hi => by omega)))
  have hCW := Box.mk (cloneW_any pa D.ws.length pc _ w3 hp3 hws (wrCells_one _))
  have e1 : w3.cell? ⟨bd, 1, none⟩ = some (.slice pa D.ws.length pc) := hb3.cell 1
  replace hnb3 := Box.mk hnb3
  replace hr3 := Box.mk hr3
  clear hCS hr2 hB2 hnb2 hb2 hp2 hp3 hb3 hc3 hw1 d0
  go_wp2_with fail
  refine hCW.out.mono ?_
  rintro e w4 ⟨v4, rfl, hr4, hn4, hB4⟩
  obtain ⟨a4, k4, rfl⟩ := hr4.shape
  have hnb4 : Blk w4 bc _ _ := (hB4.block bc hnb3.out.lt).trans hnb3.out
  have x1 : w4.cell? ⟨bc, 1, none⟩ = some (.slice pa D.ws.length pc) := hnb4.cell 1
  have g1 := hnb4.free 1
  have hrs4 := hr3.out.kept (w' := w4) fun k hk => hB4.block k (hr3.out.lt k hk)
  have hnb5 := hnb4.setCell 1 (.slice a4 D.ws.length k4)
  have hc5 := chg1 w4 bc 1 (.slice a4 D.ws.length k4)
  have hrs5 := hrs4.chg hc5 (fun k hk e => by subst e; exact hrs4.apart hnb4 (by decide) hk)
  have hr5 := hr4.chg hc5 (fun k hk e => by subst e; exact hr4.apart hnb4 (by decide) hk)
  have hfin : Box (CopyD w D (.returned (.pointer (some ⟨bc, 0, none⟩))) (w4.setCell ⟨bc, 1, none⟩ (.slice a4 D.ws.length k4))) := ⟨by
    have hz3 := hB3.out.size
    have hz4 := hB4.size
    have hz5 := hc5.size
    refine ⟨bc, rfl, ⟨hok.out, ⟨_, _, hnb5, hrs5, hr5, fun k hk => ⟨?_, hrs5.lt k hk⟩, fun k hk => ⟨?_, hr5.lt k hk⟩⟩, ⟨by omega, hnb5.lt⟩, fun k hk => hk.2⟩, ?_⟩
    · have := hn2 k hk; omega
    · have := hn4 k hk; omega
    · exact (hB3.out.trans (hB4.mono hz3)).trans (hc5.below (B := w.heap.size) (by omega) (fun i hi => by omega))⟩
  clear hCW hr4 hn4 hB4 hnb4 hrs4 hnb5 hc5 hrs5 hr5 e1 hw3
  go_wp2_with fail
  go_ret
  exact hfin.out
end Go.Proofs.Ytcccokdbgmejdaa
