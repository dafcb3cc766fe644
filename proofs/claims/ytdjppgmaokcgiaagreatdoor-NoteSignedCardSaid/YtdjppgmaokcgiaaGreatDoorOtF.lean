/- Walks of the program's Public, Sign, Recover. -/
import Derived.Test.YtdjppgmaokcgiaaGreatDoorOtE
namespace Go.Proofs.YtdjppgmaokcgiaaGreatDoor
open Go Go.RowKit

theorem enters_rec : Enters Tryz.prog 132 := enters_of Tryz.func132 (by kernel_rfl) rfl

set_option maxHeartbeats 800000 in
set_option maxRecDepth 100000 in
theorem isnum_yes (n : Nat) (w : World) (hn : n < 65536) :
    Calls Tryz.prog 128 #[.int .i64 (n : Int)] w fun e w' => e = .returned (.bool true) ∧ w = w' := by
  go_enter Tryz.func128, Tryz.ntmps128
  go_wp2_with fail
  go_ret
  exact ⟨by simp; omega, rfl⟩
set_option maxHeartbeats 800000 in
set_option maxRecDepth 100000 in
theorem isnum_no (n : Int) (w : World) (hn : n < 0 ∨ 65535 < n) :
    Calls Tryz.prog 128 #[.int .i64 n] w fun e w' => e = .returned (.bool false) ∧ w = w' := by
  go_enter Tryz.func128, Tryz.ntmps128
  go_wp2_with fail
  all_goals go_ret
  all_goals exact ⟨by simp <;> omega, rfl⟩

theorem two_cells (w : World) (s : ByteArray) (n : Int) : ∃ w1, (w.alloc (.cells #[.string s] 9)).alloc (.cells #[.int .i64 n] 3) = w1 ∧ Below w.heap.size w w1 ∧ w1.heap.size = w.heap.size + 2 ∧ w1.cell? ⟨w.heap.size, 0, none⟩ = some (.string s) ∧ w1.cell? ⟨w.heap.size + 1, 0, none⟩ = some (.int .i64 n) := by
  refine ⟨_, rfl, ((Below.refl _ _).alloc (Nat.le_refl _) _).alloc (by simp) _, by simp, ((Blk.new w [.string s] 9).alloc (.cells #[.int .i64 n] 3)).cell 0, ?_⟩
  have := (Blk.new (w.alloc (.cells #[.string s] 9)) [.int .i64 n] 3).cell 0
  rwa [show (w.alloc (.cells #[.string s] 9)).heap.size = w.heap.size + 1 by simp] at this
/-- The digits' row, laid in a new variable. -/
theorem digits_var (w : World) (t : ByteArray) : Below w.heap.size w ((w.alloc (.cells zeros18 78)).setRow w.heap.size (dcell (digs (headL t))).toArray) ∧ Blk ((w.alloc (.cells zeros18 78)).setRow w.heap.size (dcell (digs (headL t))).toArray) w.heap.size (dcell (digs (headL t))) 78 :=
  ⟨((Below.refl _ _).alloc (Nat.le_refl _) _).trans ((setRow_save _ _ _ _).below (Nat.le_refl _)), setRow_blk (zeros18_blk w) _⟩
theorem dig_info (t : ByteArray) : (Tryz.prog.info? 78).map (·.size) = some (dcell (digs (headL t))).toArray.size := by rw [dcell_size _ (by rw [digs_length]; exact Nat.le_refl _)]; exact info_d
theorem dig_size (t : ByteArray) : zeros18.size = (dcell (digs (headL t))).toArray.size := by rw [dcell_size _ (by rw [digs_length]; exact Nat.le_refl _)]; rfl

theorem two_cells2 (w : World) (s : ByteArray) (n : Int) : ∃ w1, (w.alloc (.cells #[.int .i64 n] 3)).alloc (.cells #[.string s] 9) = w1 ∧ Below w.heap.size w w1 ∧ w1.heap.size = w.heap.size + 2 ∧ w1.cell? ⟨w.heap.size, 0, none⟩ = some (.int .i64 n) ∧ w1.cell? ⟨w.heap.size + 1, 0, none⟩ = some (.string s) := by
  refine ⟨_, rfl, ((Below.refl _ _).alloc (Nat.le_refl _) _).alloc (by simp) _, by simp, ((Blk.new w [.int .i64 n] 3).alloc (.cells #[.string s] 9)).cell 0, ?_⟩
  have := (Blk.new (w.alloc (.cells #[.int .i64 n] 3)) [.string s] 9).cell 0
  rwa [show (w.alloc (.cells #[.int .i64 n] 3)).heap.size = w.heap.size + 1 by simp] at this
set_option maxHeartbeats 800000 in
set_option maxRecDepth 100000 in
theorem recover_no (t q : ByteArray) (n : Int) (w : World) (hn : n < 0 ∨ 65535 < n) :
    Calls Tryz.prog 114 #[.int .i64 n, .string t, .string q] w fun e w' => e = .returned (.tuple #[.string ⟨#[]⟩, .int .i64 1]) ∧ Below w.heap.size w w' := by
  have hN := fun w => isnum_no n w hn
  obtain ⟨w1, hw1, hB1, hs1, c1, c2⟩ := two_cells2 w q n
  replace hB1 := Box.mk hB1
  clear hn hs1
  go_enter Tryz.func114, Tryz.ntmps114
  go_wp2_with fail
  refine (hN _).mono ?_
  rintro e w' ⟨rfl, rfl⟩
  clear hN
  go_wp2_with fail
  go_returns
  exact ⟨rfl, hB1.out⟩
set_option maxHeartbeats 800000 in
set_option maxRecDepth 100000 in
theorem recover_form (t q : ByteArray) (n : Nat) (w : World) (hn : n < 65536) (hq : q.size ≠ 288) :
    Calls Tryz.prog 114 #[.int .i64 (n : Int), .string t, .string q] w fun e w' => e = .returned (.tuple #[.string ⟨#[]⟩, .int .i64 3]) ∧ Below w.heap.size w w' := by
  have hN := fun w => isnum_yes n w hn
  obtain ⟨w1, hw1, hB1, hs1, c1, c2⟩ := two_cells2 w q n
  replace hB1 := Box.mk hB1
  have hq2 : ((q.size : Int) == 288) = false := by simp; omega
  have hq3 : ((q.size : Int) != 288) = true := by simp; omega
  have hq4 : ¬ ((q.size : Int) = 288) := by omega
  clear hn hs1
  go_enter Tryz.func114, Tryz.ntmps114
  go_wp2_with fail
  refine (hN _).mono ?_
  rintro e w' ⟨rfl, rfl⟩
  clear hN
  go_wp2_with fail
  go_returns
  exact ⟨rfl, hB1.out⟩
set_option maxHeartbeats 1600000 in
set_option maxRecDepth 100000 in
theorem recover_ok (t q : ByteArray) (n : Nat) (w : World) (hK : KIs w) (hn : n < 65536) (hq : q.size = 288) (ht : t.size ≤ 1125899906842624) :
    Calls Tryz.prog 114 #[.int .i64 (n : Int), .string t, .string q] w fun e w' => e = .returned (.tuple #[.string (recT n t q), .int .i64 0]) ∧ Below w.heap.size w w' := by
  have hN := fun w => isnum_yes n w hn
  obtain ⟨w1, hw1, hB1, hs1, c1, c2⟩ := two_cells2 w q n
  have hD := pdigits_any t w1 (hK.below hB1 hK.lt) ht
  have hC := fun w2 (hb2 : Below w1.heap.size w1 w2) b3 (hb3 : Blk w2 b3 (dcell (digs (headL t))) 78) => chains_any 132 enters_rec #[.pointer (some ⟨w.heap.size + 1, 0, none⟩), .pointer (some ⟨w.heap.size, 0, none⟩), .pointer (some ⟨b3, 0, none⟩)] (fun i => if i < 18 then recV n t q i else secV t n i) (fun i => by
      show (if i < 18 then recV n t q i else secV t n i).size = 16
      split
      · exact linksV_size _ _ _ _ (cut_size q i hq (by assumption)) _
      · exact secV_size _ _ _) w2 (fun i hi w' hb => by
    rw [if_pos hi]
    exact crec_any q t n i (w.heap.size + 1) w.heap.size b3 w' (hK.below ((hB1.trans (hb2.mono hB1.size)).trans (hb.mono (Nat.le_trans hB1.size hb2.size))) hK.lt) hq hn hi
      ((hb.cell (p := ⟨w.heap.size + 1, 0, none⟩) (by have := hb2.size; simp; omega)).trans ((hb2.cell (p := ⟨w.heap.size + 1, 0, none⟩) (by simp; omega)).trans c2)) ((hb.cell (p := ⟨w.heap.size, 0, none⟩) (by have := hb2.size; simp; omega)).trans ((hb2.cell (p := ⟨w.heap.size, 0, none⟩) (by simp; omega)).trans c1)) (hb3.below hb hb3.lt))
  have hac : accT (fun i => if i < 18 then recV n t q i else secV t n i) 18 = accT (recV n t q) 18 := accT_congr 18 fun i hi => if_pos hi
  have has : (accT (recV n t q) 18).size = 288 := by
    rw [← hac]
    refine accT_size _ (fun i => ?_) 18
    show (if i < 18 then recV n t q i else secV t n i).size = 16
    split
    · exact linksV_size _ _ _ _ (cut_size q i hq (by assumption)) _
    · exact secV_size _ _ _
  have hP := fun w2 (hK2 : KIs w2) => ppub_any (accT (recV n t q) 18) w2 hK2 has
  rw [hac] at hC
  have hV := fun w => digits_var w t
  have hdi := dig_info t
  have hds := dig_size t
  obtain ⟨dg, hdd⟩ : ∃ dg, digs (headL t) = dg := ⟨_, rfl⟩
  rw [hdd] at hD hC hV hdi hds
  rw [show tagS 35 [accT (recV n t q) 18] = recT n t q from rfl] at hP
  obtain ⟨x, hx⟩ : ∃ x, accT (recV n t q) 18 = x := ⟨_, rfl⟩
  obtain ⟨y, hy⟩ : ∃ y, recT n t q = y := ⟨_, rfl⟩
  rw [hx] at hC hP
  rw [hy] at hP ⊢
  replace hB1 := Box.mk hB1
  replace hx := Box.mk hx
  replace hy := Box.mk hy
  replace hdd := Box.mk hdd
  replace hC := Box.mk hC
  replace hV := Box.mk hV
  have hsB := Box.mk hs1
  have hKB := Box.mk hK
  clear hK hn ht hs1 hac has
  go_enter Tryz.func114, Tryz.ntmps114
  go_wp2_with fail
  refine (hN _).mono ?_
  rintro e w' ⟨rfl, rfl⟩
  clear hN
  go_wp2_with fail
  refine hD.mono ?_
  clear hD
  rintro e w2 ⟨rfl, hb2⟩
  obtain ⟨q1, q2⟩ := hV.out w2
  have hZ : Box (Blk (w2.alloc (.cells zeros18 78)) w2.heap.size (dcell []) 78) := ⟨zeros18_blk w2⟩
  have hb3 : Below w1.heap.size w1 ((w2.alloc (.cells zeros18 78)).setRow w2.heap.size (dcell dg).toArray) := hb2.trans (q1.mono hb2.size)
  have hF := hC.out _ hb3 _ q2
  have hB3 : Box (Below w.heap.size w ((w2.alloc (.cells zeros18 78)).setRow w2.heap.size (dcell dg).toArray)) := ⟨hB1.out.trans (hb3.mono hB1.out.size)⟩
  clear hC hV q1 q2 hb2 hb3
  go_wp2_with (refine wpList_store_row rfl 78 (.tmp 8) (.tmp 18) rfl w2.heap.size (dcell dg).toArray rfl rfl 78 zeros18 hZ.out hdi hds (dcell_one _) ?_)
  refine hF.mono ?_
  clear hF
  rintro e w3 ⟨rfl, hb3⟩
  have hB4 : Box (Below w.heap.size w w3) := ⟨hB3.out.trans (hb3.mono hB3.out.size)⟩
  have hF := hP w3 (hKB.out.below hB4.out hKB.out.lt)
  clear hb3 hB3 hZ hP
  go_wp2_with fail
  refine hF.mono ?_
  clear hF
  rintro e w4 ⟨rfl, hb4⟩
  have hB5 : Box (Below w.heap.size w w4) := ⟨hB4.out.trans (hb4.mono hB4.out.size)⟩
  clear hb4 hB4
  go_wp2_with fail
  go_returns
  exact ⟨rfl, hB5.out⟩
end Go.Proofs.YtdjppgmaokcgiaaGreatDoor
