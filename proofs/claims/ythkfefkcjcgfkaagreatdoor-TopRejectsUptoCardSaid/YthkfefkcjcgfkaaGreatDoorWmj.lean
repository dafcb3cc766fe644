/- meta: what the program reads of a document: rules. | meta: what the program reads of a document, by its kind. | meta: Decode of the program. -/
import Derived.Test.YthkfefkcjcgfkaaGreatDoorWmi
import Derived.Test.YthkfefkcjcgfkaaGreatDoorWmh
set_option linter.all false
namespace Go.Proofs.YthkfefkcjcgfkaaGreatDoor.Me
open Go Go.RowKit Go.Proofs.YthkfefkcjcgfkaaGreatDoor Go.Proofs.YthkfefkcjcgfkaaGreatDoor.Nt
abbrev RPz (w0 : World) (br bd : Nat) (t : TypeId) (l : List UInt8) (er : Int) (d : Dc) (e : Ending) (w' : World) : Prop := e = .returned (.tuple #[]) ∧ ∃ z, Rd2 w0 w' br bd t l er d z
/-- How far the four sets of a root are read. -/
def rulI (l : List UInt8) (e : Int) : Nat → List UInt8 × Int
  | 0 => (l, e)
  | i + 1 => (takeP (rulI l e i).1 (rulI l e i).2).2
def rulS (l : List UInt8) (e : Int) (i : Nat) : SetM := (takeP (rulI l e i).1 (rulI l e i).2).1
/-- A document with the first i sets of it read. -/
def rulF (d : Dc) (l : List UInt8) (e : Int) : Nat → Dc
  | 0 => d
  | 1 => { d with f := { d.f with r0 := rulS l e 0 } }
  | 2 => { d with f := { d.f with r0 := rulS l e 0, r1 := rulS l e 1 } }
  | 3 => { d with f := { d.f with r0 := rulS l e 0, r1 := rulS l e 1, r2 := rulS l e 2 } }
  | _ => { d with f := { d.f with r0 := rulS l e 0, r1 := rulS l e 1, r2 := rulS l e 2, r3 := rulS l e 3 } }
set_option maxHeartbeats 3200000 in
set_option maxRecDepth 100000 in
theorem takerules_any {w0 w : World} {br bd : Nat} {l : List UInt8} {er : Int} {z : Sl} {d : Dc} (h : Rd2 w0 w br bd 107 l er d z) :
    Calls Tryz.prog 70 #[.pointer (some ⟨br, 0, none⟩), .pointer (some ⟨bd, 0, none⟩)] w (RPz w0 br bd 107 (rulP l er).2.1 (rulP l er).2.2 { d with f := { d.f with r0 := (rulP l er).1.1, r1 := (rulP l er).1.2.1, r2 := (rulP l er).1.2.2.1, r3 := (rulP l er).1.2.2.2.1, wt := (rulP l er).1.2.2.2.2.1, lg := (rulP l er).1.2.2.2.2.2.1, og := (rulP l er).1.2.2.2.2.2.2 } }) := by
  have hR0 : Box (∃ z, Rd2 w0 w br bd 107 (rulI l er 0).1 (rulI l er 0).2 (rulF d l er 0) z) := ⟨z, h⟩
  clear h
  go_enter Tryz.func70, Tryz.ntmps70
  go_wp2_with fail
  go_loopw [4, 5] (fun _ q wr => ∃ i : Nat, i ≤ 4 ∧ q = .int .i64 (i : Int) ∧ Box (∃ z, Rd2 w0 wr br bd 107 (rulI l er i).1 (rulI l er i).2 (rulF d l er i) z)) (fun _ q _ => 4 - (intOf q).toNat)
  case atStart => exact ⟨0, by omega, rfl, hR0⟩
  case round =>
    clear hR0
    obtain ⟨i, hi, rfl, hA⟩ := hrel
    rcases (show i = 0 ∨ i = 1 ∨ i = 2 ∨ i = 3 ∨ i = 4 by omega) with rfl | rfl | rfl | rfl | rfl
    · clear hi
      obtain ⟨z, hR0⟩ := hA.out
      have hR := Box.mk hR0
      obtain ⟨T, hT⟩ : ∃ T, takeA (rulI l er 0).1 (rulI l er 0).2 = T := ⟨_, rfl⟩
      have hq := Box.mk fun (w' : World) (hw : Pk.RAt w' br 107 (rulI l er 0).1 (rulI l er 0).2) => take_any br (rulI l er 0).1 (rulI l er 0).2 w' hw
      rw [hT] at hq
      have hnx : Box (rulI l er 1 = (T.2.2.1, errT T)) := ⟨by rw [← hT]; rfl⟩
      have hnS : Box (rulS l er 0 = (idsT T, needT T)) := ⟨by rw [← hT]; rfl⟩
      clear hA hR0 hT
      go_wp2_with fail
      refine region_steadyC (fun _ => True) (fun w' => Rd2 w0 w' br bd 107 (rulI l er 0).1 (rulI l er 0).2 (rulF d l er 0) z) (fun w w' => w = w') rfl (hR.out.below (Drawn.below ⟨1, rfl⟩)) ?_
      refine anyS_calms [0, 1, 2, 4, 5] 3 rfl (fun _ => rfl) (st_eq fun _ _ => trivial) (by kernel_rfl) (by kernel_rfl) (by kernel_rfl) ?_
      simp [nth]
      try simp only [Act.put, List.setIfInBounds_toArray, List.set_cons_succ, List.set_cons_zero]
      repeat (go_big_quiet_step (first | exact fun _ => rfl | rfl))
      refine wpQuiet_nil ?_
      refine anyS_forced 3 (by kernel_rfl) rfl rfl (fun wa hWa K hK => ?_)
      have hF := hq.out wa hWa.rat
      go_simp
      refine hF.mono ?_
      clear hF
      rintro r wb ⟨⟨v, rfl, hv⟩, hat, hch⟩
      obtain ⟨a, c, rfl⟩ := hv.shape
      have hS := hWa.step hat hch
      have hv0 := hv.base hWa.bel.size
      refine hK _ _ (fun w' => Rd2 w0 w' br bd 107 T.2.2.1 (errT T) (rulF d l er 0) z ∧ TxR w0.heap.size w' (.slice a (idsT T).length c) (idsT T)) (st_eq fun _ _ => trivial) ⟨hS, hv0⟩ ?_
      clear hK K hWa hv hat hch hS hv0 wa wb hR hq
      refine anyS_calms [6] 1 rfl (fun _ => rfl) (st_eq fun _ _ => trivial) (by kernel_rfl) (by kernel_rfl) (by kernel_rfl) ?_
      simp [nth]
      try simp only [Act.put, List.setIfInBounds_toArray, List.set_cons_succ, List.set_cons_zero]
      repeat (go_big_quiet_step (first | exact fun _ => rfl | rfl))
      refine wpQuiet_nil ?_
      refine anyS_last 7 (by kernel_rfl) rfl rfl (by kernel_rfl) (by kernel_rfl) (fun wd hWd K hK => ?_)
      obtain ⟨hS, hv⟩ := hWd
      have hE := hS.r0 hv (needT T)
      have cA : wd.cell? ⟨bd, 3, none⟩ = some _ := hS.blk.cell 3
      have cB : wd.cell? ⟨bd, 4, none⟩ = some _ := hS.blk.cell 4
      have fA := hS.free 3
      have fB := hS.free 4
      obtain ⟨we, hwe⟩ : ∃ we, (wd.setCell ⟨bd, 3, none⟩ (.slice a (idsT T).length c)).setCell ⟨bd, 4, none⟩ (.int .i64 (needT T)) = we := ⟨_, rfl⟩
      rw [hwe] at hE
      have hE2 : Box (∃ z, Rd2 w0 we br bd 107 (rulI l er 1).1 (rulI l er 1).2 (rulF d l er 1) z) := ⟨_, by rw [hnx.out]; simpa [rulF, hnS.out] using hE⟩
      clear hE hS hv
      go_simp
      refine hK _ _ ?_
      clear hK K cA cB fA fB hwe
      go_wp2_with fail
      exact ⟨⟨1, by omega, rfl, hE2⟩, by simp [intOf]⟩
    · clear hi
      obtain ⟨z, hR0⟩ := hA.out
      have hR := Box.mk hR0
      obtain ⟨T, hT⟩ : ∃ T, takeA (rulI l er 1).1 (rulI l er 1).2 = T := ⟨_, rfl⟩
      have hq := Box.mk fun (w' : World) (hw : Pk.RAt w' br 107 (rulI l er 1).1 (rulI l er 1).2) => take_any br (rulI l er 1).1 (rulI l er 1).2 w' hw
      rw [hT] at hq
      have hnx : Box (rulI l er 2 = (T.2.2.1, errT T)) := ⟨by rw [← hT]; rfl⟩
      have hnS : Box (rulS l er 1 = (idsT T, needT T)) := ⟨by rw [← hT]; rfl⟩
      clear hA hR0 hT
      go_wp2_with fail
      refine region_steadyC (fun _ => True) (fun w' => Rd2 w0 w' br bd 107 (rulI l er 1).1 (rulI l er 1).2 (rulF d l er 1) z) (fun w w' => w = w') rfl (hR.out.below (Drawn.below ⟨1, rfl⟩)) ?_
      refine anyS_calms [0, 1, 2, 4, 5] 3 rfl (fun _ => rfl) (st_eq fun _ _ => trivial) (by kernel_rfl) (by kernel_rfl) (by kernel_rfl) ?_
      simp [nth]
      try simp only [Act.put, List.setIfInBounds_toArray, List.set_cons_succ, List.set_cons_zero]
      repeat (go_big_quiet_step (first | exact fun _ => rfl | rfl))
      refine wpQuiet_nil ?_
      refine anyS_forced 3 (by kernel_rfl) rfl rfl (fun wa hWa K hK => ?_)
      have hF := hq.out wa hWa.rat
      go_simp
      refine hF.mono ?_
      clear hF
      rintro r wb ⟨⟨v, rfl, hv⟩, hat, hch⟩
      obtain ⟨a, c, rfl⟩ := hv.shape
      have hS := hWa.step hat hch
      have hv0 := hv.base hWa.bel.size
      refine hK _ _ (fun w' => Rd2 w0 w' br bd 107 T.2.2.1 (errT T) (rulF d l er 1) z ∧ TxR w0.heap.size w' (.slice a (idsT T).length c) (idsT T)) (st_eq fun _ _ => trivial) ⟨hS, hv0⟩ ?_
      clear hK K hWa hv hat hch hS hv0 wa wb hR hq
      refine anyS_calms [6] 1 rfl (fun _ => rfl) (st_eq fun _ _ => trivial) (by kernel_rfl) (by kernel_rfl) (by kernel_rfl) ?_
      simp [nth]
      try simp only [Act.put, List.setIfInBounds_toArray, List.set_cons_succ, List.set_cons_zero]
      repeat (go_big_quiet_step (first | exact fun _ => rfl | rfl))
      refine wpQuiet_nil ?_
      refine anyS_last 7 (by kernel_rfl) rfl rfl (by kernel_rfl) (by kernel_rfl) (fun wd hWd K hK => ?_)
      obtain ⟨hS, hv⟩ := hWd
      have hE := hS.r1 hv (needT T)
      have cA : wd.cell? ⟨bd, 5, none⟩ = some _ := hS.blk.cell 5
      have cB : wd.cell? ⟨bd, 6, none⟩ = some _ := hS.blk.cell 6
      have fA := hS.free 5
      have fB := hS.free 6
      obtain ⟨we, hwe⟩ : ∃ we, (wd.setCell ⟨bd, 5, none⟩ (.slice a (idsT T).length c)).setCell ⟨bd, 6, none⟩ (.int .i64 (needT T)) = we := ⟨_, rfl⟩
      rw [hwe] at hE
      have hE2 : Box (∃ z, Rd2 w0 we br bd 107 (rulI l er 2).1 (rulI l er 2).2 (rulF d l er 2) z) := ⟨_, by rw [hnx.out]; simpa [rulF, hnS.out] using hE⟩
      clear hE hS hv
      go_simp
      refine hK _ _ ?_
      clear hK K cA cB fA fB hwe
      go_wp2_with fail
      exact ⟨⟨2, by omega, rfl, hE2⟩, by simp [intOf]⟩
    · clear hi
      obtain ⟨z, hR0⟩ := hA.out
      have hR := Box.mk hR0
      obtain ⟨T, hT⟩ : ∃ T, takeA (rulI l er 2).1 (rulI l er 2).2 = T := ⟨_, rfl⟩
      have hq := Box.mk fun (w' : World) (hw : Pk.RAt w' br 107 (rulI l er 2).1 (rulI l er 2).2) => take_any br (rulI l er 2).1 (rulI l er 2).2 w' hw
      rw [hT] at hq
      have hnx : Box (rulI l er 3 = (T.2.2.1, errT T)) := ⟨by rw [← hT]; rfl⟩
      have hnS : Box (rulS l er 2 = (idsT T, needT T)) := ⟨by rw [← hT]; rfl⟩
      clear hA hR0 hT
      go_wp2_with fail
      refine region_steadyC (fun _ => True) (fun w' => Rd2 w0 w' br bd 107 (rulI l er 2).1 (rulI l er 2).2 (rulF d l er 2) z) (fun w w' => w = w') rfl (hR.out.below (Drawn.below ⟨1, rfl⟩)) ?_
      refine anyS_calms [0, 1, 2, 4, 5] 3 rfl (fun _ => rfl) (st_eq fun _ _ => trivial) (by kernel_rfl) (by kernel_rfl) (by kernel_rfl) ?_
      simp [nth]
      try simp only [Act.put, List.setIfInBounds_toArray, List.set_cons_succ, List.set_cons_zero]
      repeat (go_big_quiet_step (first | exact fun _ => rfl | rfl))
      refine wpQuiet_nil ?_
      refine anyS_forced 3 (by kernel_rfl) rfl rfl (fun wa hWa K hK => ?_)
      have hF := hq.out wa hWa.rat
      go_simp
      refine hF.mono ?_
      clear hF
      rintro r wb ⟨⟨v, rfl, hv⟩, hat, hch⟩
      obtain ⟨a, c, rfl⟩ := hv.shape
      have hS := hWa.step hat hch
      have hv0 := hv.base hWa.bel.size
      refine hK _ _ (fun w' => Rd2 w0 w' br bd 107 T.2.2.1 (errT T) (rulF d l er 2) z ∧ TxR w0.heap.size w' (.slice a (idsT T).length c) (idsT T)) (st_eq fun _ _ => trivial) ⟨hS, hv0⟩ ?_
      clear hK K hWa hv hat hch hS hv0 wa wb hR hq
      refine anyS_calms [6] 1 rfl (fun _ => rfl) (st_eq fun _ _ => trivial) (by kernel_rfl) (by kernel_rfl) (by kernel_rfl) ?_
      simp [nth]
      try simp only [Act.put, List.setIfInBounds_toArray, List.set_cons_succ, List.set_cons_zero]
      repeat (go_big_quiet_step (first | exact fun _ => rfl | rfl))
      refine wpQuiet_nil ?_
      refine anyS_last 7 (by kernel_rfl) rfl rfl (by kernel_rfl) (by kernel_rfl) (fun wd hWd K hK => ?_)
      obtain ⟨hS, hv⟩ := hWd
      have hE := hS.r2 hv (needT T)
      have cA : wd.cell? ⟨bd, 7, none⟩ = some _ := hS.blk.cell 7
      have cB : wd.cell? ⟨bd, 8, none⟩ = some _ := hS.blk.cell 8
      have fA := hS.free 7
      have fB := hS.free 8
      obtain ⟨we, hwe⟩ : ∃ we, (wd.setCell ⟨bd, 7, none⟩ (.slice a (idsT T).length c)).setCell ⟨bd, 8, none⟩ (.int .i64 (needT T)) = we := ⟨_, rfl⟩
      rw [hwe] at hE
      have hE2 : Box (∃ z, Rd2 w0 we br bd 107 (rulI l er 3).1 (rulI l er 3).2 (rulF d l er 3) z) := ⟨_, by rw [hnx.out]; simpa [rulF, hnS.out] using hE⟩
      clear hE hS hv
      go_simp
      refine hK _ _ ?_
      clear hK K cA cB fA fB hwe
      go_wp2_with fail
      exact ⟨⟨3, by omega, rfl, hE2⟩, by simp [intOf]⟩
    · clear hi
      obtain ⟨z, hR0⟩ := hA.out
      have hR := Box.mk hR0
      obtain ⟨T, hT⟩ : ∃ T, takeA (rulI l er 3).1 (rulI l er 3).2 = T := ⟨_, rfl⟩
      have hq := Box.mk fun (w' : World) (hw : Pk.RAt w' br 107 (rulI l er 3).1 (rulI l er 3).2) => take_any br (rulI l er 3).1 (rulI l er 3).2 w' hw
      rw [hT] at hq
      have hnx : Box (rulI l er 4 = (T.2.2.1, errT T)) := ⟨by rw [← hT]; rfl⟩
      have hnS : Box (rulS l er 3 = (idsT T, needT T)) := ⟨by rw [← hT]; rfl⟩
      clear hA hR0 hT
      go_wp2_with fail
      refine region_steadyC (fun _ => True) (fun w' => Rd2 w0 w' br bd 107 (rulI l er 3).1 (rulI l er 3).2 (rulF d l er 3) z) (fun w w' => w = w') rfl (hR.out.below (Drawn.below ⟨1, rfl⟩)) ?_
      refine anyS_calms [0, 1, 2, 4, 5] 3 rfl (fun _ => rfl) (st_eq fun _ _ => trivial) (by kernel_rfl) (by kernel_rfl) (by kernel_rfl) ?_
      simp [nth]
      try simp only [Act.put, List.setIfInBounds_toArray, List.set_cons_succ, List.set_cons_zero]
      repeat (go_big_quiet_step (first | exact fun _ => rfl | rfl))
      refine wpQuiet_nil ?_
      refine anyS_forced 3 (by kernel_rfl) rfl rfl (fun wa hWa K hK => ?_)
      have hF := hq.out wa hWa.rat
      go_simp
      refine hF.mono ?_
      clear hF
      rintro r wb ⟨⟨v, rfl, hv⟩, hat, hch⟩
      obtain ⟨a, c, rfl⟩ := hv.shape
      have hS := hWa.step hat hch
      have hv0 := hv.base hWa.bel.size
      refine hK _ _ (fun w' => Rd2 w0 w' br bd 107 T.2.2.1 (errT T) (rulF d l er 3) z ∧ TxR w0.heap.size w' (.slice a (idsT T).length c) (idsT T)) (st_eq fun _ _ => trivial) ⟨hS, hv0⟩ ?_
      clear hK K hWa hv hat hch hS hv0 wa wb hR hq
      refine anyS_calms [6] 1 rfl (fun _ => rfl) (st_eq fun _ _ => trivial) (by kernel_rfl) (by kernel_rfl) (by kernel_rfl) ?_
      simp [nth]
      try simp only [Act.put, List.setIfInBounds_toArray, List.set_cons_succ, List.set_cons_zero]
      repeat (go_big_quiet_step (first | exact fun _ => rfl | rfl))
      refine wpQuiet_nil ?_
      refine anyS_last 7 (by kernel_rfl) rfl rfl (by kernel_rfl) (by kernel_rfl) (fun wd hWd K hK => ?_)
      obtain ⟨hS, hv⟩ := hWd
      have hE := hS.r3 hv (needT T)
      have cA : wd.cell? ⟨bd, 9, none⟩ = some _ := hS.blk.cell 9
      have cB : wd.cell? ⟨bd, 10, none⟩ = some _ := hS.blk.cell 10
      have fA := hS.free 9
      have fB := hS.free 10
      obtain ⟨we, hwe⟩ : ∃ we, (wd.setCell ⟨bd, 9, none⟩ (.slice a (idsT T).length c)).setCell ⟨bd, 10, none⟩ (.int .i64 (needT T)) = we := ⟨_, rfl⟩
      rw [hwe] at hE
      have hE2 : Box (∃ z, Rd2 w0 we br bd 107 (rulI l er 4).1 (rulI l er 4).2 (rulF d l er 4) z) := ⟨_, by rw [hnx.out]; simpa [rulF, hnS.out] using hE⟩
      clear hE hS hv
      go_simp
      refine hK _ _ ?_
      clear hK K cA cB fA fB hwe
      go_wp2_with fail
      exact ⟨⟨4, by omega, rfl, hE2⟩, by simp [intOf]⟩
    · clear hi
      obtain ⟨z, hR0⟩ := hA.out
      have hR := Box.mk hR0
      have eR : rulP l er = ((rulS l er 0, rulS l er 1, rulS l er 2, rulS l er 3, (takeP (rulI l er 4).1 (rulI l er 4).2).1, (hashR (takeP (rulI l er 4).1 (rulI l er 4).2).2.1 (takeP (rulI l er 4).1 (rulI l er 4).2).2.2).1, (textsR 64 (hashR (takeP (rulI l er 4).1 (rulI l er 4).2).2.1 (takeP (rulI l er 4).1 (rulI l er 4).2).2.2).2.1 (hashR (takeP (rulI l er 4).1 (rulI l er 4).2).2.1 (takeP (rulI l er 4).1 (rulI l er 4).2).2.2).2.2).1), (textsR 64 (hashR (takeP (rulI l er 4).1 (rulI l er 4).2).2.1 (takeP (rulI l er 4).1 (rulI l er 4).2).2.2).2.1 (hashR (takeP (rulI l er 4).1 (rulI l er 4).2).2.1 (takeP (rulI l er 4).1 (rulI l er 4).2).2.2).2.2).2) := rfl
      obtain ⟨T, hT⟩ : ∃ T, takeA (rulI l er 4).1 (rulI l er 4).2 = T := ⟨_, rfl⟩
      have eT : takeP (rulI l er 4).1 (rulI l er 4).2 = ((idsT T, needT T), T.2.2.1, errT T) := by rw [← hT]; rfl
      rw [eT] at eR
      replace eR := Box.mk eR
      have hq := take_any br (rulI l er 4).1 (rulI l er 4).2 wr hR.out.rat
      rw [hT] at hq
      replace hq := Box.mk hq
      clear hA hR0 hT eT
      go_wp2_with fail
      refine hq.out.mono ?_
      clear hq
      rintro r wb ⟨⟨v, rfl, hv⟩, hat, hch⟩
      obtain ⟨a, c, rfl⟩ := hv.shape
      have hS := hR.out.step hat hch
      have hv0 := hv.base hR.out.bel.size
      have hE := hS.wt hv0 (needT T)
      have cA : wb.cell? ⟨bd, 11, none⟩ = some _ := hS.blk.cell 11
      have cB : wb.cell? ⟨bd, 12, none⟩ = some _ := hS.blk.cell 12
      have fA := hS.free 11
      have fB := hS.free 12
      obtain ⟨we, hwe⟩ : ∃ we, (wb.setCell ⟨bd, 11, none⟩ (.slice a (idsT T).length c)).setCell ⟨bd, 12, none⟩ (.int .i64 (needT T)) = we := ⟨_, rfl⟩
      rw [hwe] at hE
      replace hR := Box.mk hE
      obtain ⟨D5, hD5⟩ : ∃ D, ({ rulF d l er 4 with f := { (rulF d l er 4).f with wt := (idsT T, needT T) } } : Dc) = D := ⟨_, rfl⟩
      rw [hD5] at hR
      clear hv hat hch hS hv0 hE
      have hq := Pk.rhash_any br T.2.2.1 (errT T) we hR.out.rat
      obtain ⟨X, hX⟩ : ∃ x, Pk.rawR 32 T.2.2.1 (errT T) = x := ⟨_, rfl⟩
      rw [hX] at hq
      replace hq := Box.mk hq
      go_wp2_with fail
      refine hq.out.mono ?_
      clear hq
      rintro r wa ⟨rfl, hn⟩
      have hR1 := hR.out.rd hn
      have cA : wa.cell? ⟨bd, 13, none⟩ = some (.string D5.f.lg) := hR1.blk.cell 13
      have fA := hR1.free 13
      have hR2 := hR1.lg (Pk.btx X.1)
      obtain ⟨wb, hwb⟩ : ∃ wb, wa.setCell ⟨bd, 13, none⟩ (.string (Pk.btx X.1)) = wb := ⟨_, rfl⟩
      rw [hwb] at hR2
      replace hR := Box.mk hR2
      clear hn hR1 hR2
      have hq := Pk.rtext_any br X.2.1 X.2.2 64 wb hR.out.rat
      obtain ⟨Y, hY⟩ : ∃ x, Pk.textR 64 X.2.1 X.2.2 = x := ⟨_, rfl⟩
      rw [hY] at hq
      replace hq := Box.mk hq
      go_wp2_with fail
      refine hq.out.mono ?_
      clear hq
      rintro r wa ⟨rfl, hn⟩
      have hR1 := hR.out.rd hn
      have cA : wa.cell? ⟨bd, 14, none⟩ = some (.string D5.f.og) := hR1.blk.cell 14
      have fA := hR1.free 14
      have hR2 := hR1.og (Pk.btx Y.1)
      obtain ⟨wb, hwb⟩ : ∃ wb, wa.setCell ⟨bd, 14, none⟩ (.string (Pk.btx Y.1)) = wb := ⟨_, rfl⟩
      rw [hwb] at hR2
      replace hR := Box.mk hR2
      clear hn hR1 hR2
      go_wp2_with fail
      go_returns
      subst hY
      subst hX
      subst hD5
      exact ⟨rfl, _, by rw [eR.out]; exact hR.out⟩
end Go.Proofs.YthkfefkcjcgfkaaGreatDoor.Me

namespace Go.Proofs.YthkfefkcjcgfkaaGreatDoor.Me
open Go Go.RowKit Go.Proofs.YthkfefkcjcgfkaaGreatDoor Go.Proofs.YthkfefkcjcgfkaaGreatDoor.Nt
theorem TgR.base {B C : Nat} {w : World} {v : Value} {ts : List TgM} (h : TgR B w v ts) (hC : C ≤ B) : TgR C w v ts := ⟨h.row, fun k hk => Nat.le_trans hC (h.own k hk)⟩
theorem ptP_eq (l : List UInt8) (e : Int) : snaP l e = (((lnkP l e).1.1, (lnkP l e).1.2, (ptP (lnkP l e).2.1 (lnkP l e).2.2).1.1, (ptP (lnkP l e).2.1 (lnkP l e).2.2).1.2.1, (ptP (lnkP l e).2.1 (lnkP l e).2.2).1.2.2), (ptP (lnkP l e).2.1 (lnkP l e).2.2).2) := by
  simp only [snaP, lnkP, ptP, seqR]
set_option maxHeartbeats 3200000 in
set_option maxRecDepth 100000 in
theorem takefields_1 {w0 w : World} {br bd : Nat} {l : List UInt8} {er : Int} {z : Sl} {v x : Int} (h : Rd2 w0 w br bd 107 l er ⟨1, v, x, fl0⟩ z) :
    Calls Tryz.prog 39 #[.pointer (some ⟨br, 0, none⟩), .pointer (some ⟨bd, 0, none⟩)] w (RPz w0 br bd 107 (fldR 1 l er).2.1 (fldR 1 l er).2.2 ⟨1, v, x, (fldR 1 l er).1⟩) := by
  have hR := Box.mk h
  have c0 : w.cell? ⟨bd, 0, none⟩ = some (.int .i64 1) := h.blk.cell 0
  clear h
  have hq := takerules_any hR.out
  dsimp only at hq
  replace hq := Box.mk hq
  go_enter Tryz.func39, Tryz.ntmps39
  go_wp2_with fail
  refine hq.out.mono ?_
  clear hq
  rintro r wa ⟨rfl, hz⟩
  go_wp2_with fail
  go_returns
  exact ⟨rfl, hz⟩
set_option maxHeartbeats 3200000 in
set_option maxRecDepth 100000 in
theorem takefields_2 {w0 w : World} {br bd : Nat} {l : List UInt8} {er : Int} {z : Sl} {v x : Int} (h : Rd2 w0 w br bd 107 l er ⟨2, v, x, fl0⟩ z) :
    Calls Tryz.prog 39 #[.pointer (some ⟨br, 0, none⟩), .pointer (some ⟨bd, 0, none⟩)] w (RPz w0 br bd 107 (fldR 2 l er).2.1 (fldR 2 l er).2.2 ⟨2, v, x, (fldR 2 l er).1⟩) := by
  have hR := Box.mk h
  have c0 : w.cell? ⟨bd, 0, none⟩ = some (.int .i64 2) := h.blk.cell 0
  clear h
  have hq := Box.mk (takelist_any br l er w hR.out.rat)
  go_enter Tryz.func39, Tryz.ntmps39
  go_wp2_with fail
  refine hq.out.mono ?_
  clear hq
  rintro r wa ⟨v', rfl, ht⟩
  obtain ⟨a, c, rfl⟩ := ht.row.row.shape
  have hS := hR.out.step ht.at_ ht.chg
  have hE := hS.ls (ht.row.base hR.out.bel.size)
  have cA : wa.cell? ⟨bd, 15, none⟩ = some _ := hS.blk.cell 15
  have fA := hS.free 15
  obtain ⟨wb, hwb⟩ : ∃ wb, wa.setCell ⟨bd, 15, none⟩ (.slice a (listP l er).1.length c) = wb := ⟨_, rfl⟩
  rw [hwb] at hE
  replace hE := Box.mk hE
  clear hS ht hR
  go_wp2_with fail
  go_returns
  exact ⟨rfl, _, hE.out⟩
set_option maxHeartbeats 3200000 in
set_option maxRecDepth 100000 in
theorem takefields_3 {w0 w : World} {br bd : Nat} {l : List UInt8} {er : Int} {z : Sl} {v x : Int} (h : Rd2 w0 w br bd 107 l er ⟨3, v, x, fl0⟩ z) :
    Calls Tryz.prog 39 #[.pointer (some ⟨br, 0, none⟩), .pointer (some ⟨bd, 0, none⟩)] w (RPz w0 br bd 107 (fldR 3 l er).2.1 (fldR 3 l er).2.2 ⟨3, v, x, (fldR 3 l er).1⟩) := by
  have hR := Box.mk h
  have c0 : w.cell? ⟨bd, 0, none⟩ = some (.int .i64 3) := h.blk.cell 0
  clear h
  have eS := ptP_eq l er
  have hq := Box.mk (takelink_any hR.out)
  go_enter Tryz.func39, Tryz.ntmps39
  go_wp2_with fail
  refine hq.out.mono ?_
  clear hq
  rintro r wa ⟨rfl, hn⟩
  have hq := Box.mk (takepoint_any hn.rat)
  replace hR := Box.mk hn
  clear hn
  obtain ⟨P, hP⟩ : ∃ P, ptP (lnkP l er).2.1 (lnkP l er).2.2 = P := ⟨_, rfl⟩
  rw [hP] at hq
  go_wp2_with fail
  refine hq.out.mono ?_
  clear hq
  rintro r wb ⟨rfl, hn⟩
  have hS := hR.out.rd hn
  have hE := ((hS.po P.1.1).pn P.1.2.1).pr P.1.2.2
  have cA : wb.cell? ⟨bd, 16, none⟩ = some _ := hS.blk.cell 16
  have cB : wb.cell? ⟨bd, 17, none⟩ = some _ := hS.blk.cell 17
  have cC : wb.cell? ⟨bd, 18, none⟩ = some _ := hS.blk.cell 18
  have fA := hS.free 16
  have fB := hS.free 17
  have fC := hS.free 18
  obtain ⟨wc, hwc⟩ : ∃ wc, ((wb.setCell ⟨bd, 16, none⟩ (.string P.1.1)).setCell ⟨bd, 17, none⟩ (.int .i64 P.1.2.1)).setCell ⟨bd, 18, none⟩ (.string P.1.2.2) = wc := ⟨_, rfl⟩
  rw [hwc] at hE
  subst hP
  have hF : Box (Rd2 w0 wc br bd 107 (fldR 3 l er).2.1 (fldR 3 l er).2.2 ⟨3, v, x, (fldR 3 l er).1⟩ z) := ⟨by
    have e3 : fldR 3 l er = (fSna (snaP l er).1, (snaP l er).2) := rfl
    rw [e3, eS]; exact hE⟩
  clear hS hn hR hE eS
  go_wp2_with fail
  go_returns
  exact ⟨rfl, _, hF.out⟩
set_option maxHeartbeats 3200000 in
set_option maxRecDepth 100000 in
theorem takefields_4 {w0 w : World} {br bd : Nat} {l : List UInt8} {er : Int} {z : Sl} {v x : Int} (h : Rd2 w0 w br bd 107 l er ⟨4, v, x, fl0⟩ z) :
    Calls Tryz.prog 39 #[.pointer (some ⟨br, 0, none⟩), .pointer (some ⟨bd, 0, none⟩)] w (RPz w0 br bd 107 (fldR 4 l er).2.1 (fldR 4 l er).2.2 ⟨4, v, x, (fldR 4 l er).1⟩) := by
  have hR := Box.mk h
  have c0 : w.cell? ⟨bd, 0, none⟩ = some (.int .i64 4) := h.blk.cell 0
  clear h
  have hq := Box.mk (takelink_any hR.out)
  go_enter Tryz.func39, Tryz.ntmps39
  go_wp2_with fail
  refine hq.out.mono ?_
  clear hq
  rintro r wa ⟨rfl, hn⟩
  replace hn := Box.mk hn
  go_wp2_with fail
  go_returns
  exact ⟨rfl, _, hn.out⟩
set_option maxHeartbeats 3200000 in
set_option maxRecDepth 100000 in
theorem takefields_0 {w0 w : World} {br bd : Nat} {l : List UInt8} {er : Int} {z : Sl} {k v x : Int} (h : Rd2 w0 w br bd 107 l er ⟨k, v, x, fl0⟩ z) (h1 : ¬ k = 1) (h2 : ¬ k = 2) (h3 : ¬ k = 3) (h4 : ¬ k = 4) :
    Calls Tryz.prog 39 #[.pointer (some ⟨br, 0, none⟩), .pointer (some ⟨bd, 0, none⟩)] w (RPz w0 br bd 107 (fldR k l er).2.1 (fldR k l er).2.2 ⟨k, v, x, (fldR k l er).1⟩) := by
  have hR := Box.mk h
  have c0 : w.cell? ⟨bd, 0, none⟩ = some (.int .i64 k) := h.blk.cell 0
  clear h
  have e : fldR k l er = (fl0, l, er) := by rw [fldR, if_neg h1, if_neg h2, if_neg h3, if_neg h4]
  rw [e]
  clear e
  have k1 : (k == 1) = false := by simpa using h1
  have k2 : (k == 2) = false := by simpa using h2
  have k3 : (k == 3) = false := by simpa using h3
  have k4 : (k == 4) = false := by simpa using h4
  clear h1 h2 h3 h4
  go_enter Tryz.func39, Tryz.ntmps39
  go_wp2_with fail
  go_returns
  exact ⟨rfl, _, hR.out⟩
theorem takefields_any {w0 w : World} {br bd : Nat} {l : List UInt8} {er : Int} {z : Sl} {k v x : Int} (h : Rd2 w0 w br bd 107 l er ⟨k, v, x, fl0⟩ z) :
    Calls Tryz.prog 39 #[.pointer (some ⟨br, 0, none⟩), .pointer (some ⟨bd, 0, none⟩)] w (RPz w0 br bd 107 (fldR k l er).2.1 (fldR k l er).2.2 ⟨k, v, x, (fldR k l er).1⟩) := by
  by_cases h1 : k = 1
  · subst h1; exact takefields_1 h
  by_cases h2 : k = 2
  · subst h2; exact takefields_2 h
  by_cases h3 : k = 3
  · subst h3; exact takefields_3 h
  by_cases h4 : k = 4
  · subst h4; exact takefields_4 h
  exact takefields_0 h h1 h2 h3 h4
end Go.Proofs.YthkfefkcjcgfkaaGreatDoor.Me

namespace Go.Proofs.YthkfefkcjcgfkaaGreatDoor.Me
open Go Go.RowKit Go.Proofs.YthkfefkcjcgfkaaGreatDoor Go.Proofs.YthkfefkcjcgfkaaGreatDoor.Nt
theorem chg_setCells {S : Nat → Prop} {a : World} {b : Nat} (hb : S b) : ∀ (vs : List Value) (o : Nat) (w : World), Pk.Chg S a w → Pk.Chg S a (w.setCells b o vs)
  | [], _, _, h => h
  | v :: vs, o, w, h => chg_setCells hb vs (o + 1) _ (h.setCell (p := ⟨b, o, none⟩) hb v)
theorem blk_setCells {b : Nat} {t : TypeId} : ∀ (vs : List Value) (o : Nat) (w : World) (cs : List Value), o + vs.length = cs.length → Pk.Blk w b cs t → Pk.Blk (w.setCells b o vs) b (cs.take o ++ vs) t
  | [], o, w, cs, h, hb => by
    rw [List.append_nil, List.take_of_length_le (by simp at h; omega)]; exact hb
  | v :: vs, o, w, cs, h, hb => by
    have k := blk_setCells vs (o + 1) _ _ (by rw [List.length_set]; simp at h; omega) (hb.setCell o v)
    have e : (cs.set o v).take (o + 1) ++ vs = cs.take o ++ v :: vs := by
      have hl : o < (cs.set o v).length := by rw [List.length_set]; simp at h; omega
      rw [List.take_succ_eq_append_getElem hl, List.take_set, List.set_eq_of_length_le (by rw [List.length_take]; omega)]
      simp
    rw [e] at k
    exact k
theorem blk_all {b : Nat} {t : TypeId} {w : World} {cs vs : List Value} (h : Pk.Blk w b cs t) (hl : vs.length = cs.length) : Pk.Blk (w.setCells b 0 vs) b vs t := by
  have := blk_setCells vs 0 w cs (by omega) h
  simpa using this
theorem blk_there {b n : Nat} {t : TypeId} {w : World} {cs : List Value} (h : Pk.Blk w b cs t) (hn : n = cs.length) : w.there b 0 n := fun j hj => by
  rw [Nat.zero_add]
  refine ⟨?_, h.free j⟩
  rw [h.cell j, List.getElem?_eq_getElem (by omega)]
  rfl
theorem docL_one (d : Dc) (z : Sl) : (docL d z).toArray.all (·.oneCell') = true := by
  unfold docL
  simp [Value.oneCell']
theorem DcR.empty (B : Nat) (w : World) (k v x : Int) : DcR B w zz0 ⟨k, v, x, fl0⟩ := ⟨TxR.nil B w, TxR.nil B w, TxR.nil B w, TxR.nil B w, TxR.nil B w, TgR.nil B w⟩
def DecS (B : Nat) (l : List UInt8) (e : Ending) (w' : World) : Prop := ∃ z, e = .returned (.tuple #[docV (decM l).1 z, .int .i64 (decM l).2]) ∧ DcR B w' z (decM l).1
theorem wpList_buildD {P : Program} {ops : Array Oper} {rest : List Oper} {o : Oper} {a : Act} {w : World} {Q : Exit → Act → World → Prop} (hgd : o.guard = none) (t : TypeId) (parts : List (Nat × Operand)) (ho : o.op = .build t parts.toArray) (vals : List (Nat × Value)) (hv : parts.map (fun x => (x.1, a.eval x.2)) = vals) (L : List Value) (hb : P.built t vals = some L.toArray)
    (k : wpList P ops Q rest (a.put o.dst (.agg L.toArray)) w) : wpList P ops Q (o :: rest) a w := by
  have e : (parts.toArray.map fun (i, x) => (i, a.eval x)).toList = vals := by rw [Array.toList_map]; exact hv
  exact wpList_build hgd t parts.toArray ho (by rw [e, hb]; rfl) (by rw [e, hb]; exact k)
theorem built_doc (k v x : Int) : Tryz.prog.built 46 [(0, .int .i64 k), (1, .int .i64 v), (2, .int .i64 x)] = some (docL ⟨k, v, x, fl0⟩ zz0).toArray := by kernel_rfl
theorem built_zero : Tryz.prog.built 46 [] = some (docL dc0 zz0).toArray := by kernel_rfl
theorem wpList_store_doc {ops : Array Oper} {rest : List Oper} {op : Oper} {a : Act} {w : World} {Q : Exit → Act → World → Prop} (hgd : op.guard = none) (x y : Operand) (ho : op.op = .store 46 x y)
    (b : Nat) (d : Dc) (z : Sl) (hx : a.eval x = .pointer (some ⟨b, 0, none⟩)) (hy : a.eval y = .agg (docL d z).toArray) {cs : List Value} {t : TypeId} (hb : Pk.Blk w b cs t) (hl : cs.length = 21)
    (h : ∀ w', w.setCells b 0 (docL d z) = w' → wpList Tryz.prog ops Q rest (a.put op.dst undef) w') : wpList Tryz.prog ops Q (op :: rest) a w :=
  wpList_store_mid hgd 46 x y ho b 0 (docL d z).toArray hx hy (blk_there hb hl.symm) size21 (docL_one d z) (h _ rfl)
theorem textR_len (l : List UInt8) (e : Int) (m : Int) : (Pk.btx (Pk.textR m l e).1).size ≤ 140737488355328 := by
  rw [Pk.mk_size]
  unfold Pk.textR
  by_cases h1 : e ≠ 0
  · rw [if_pos h1]; simp
  rw [if_neg h1]
  by_cases h2 : l.length < 2
  · rw [if_pos h2]; simp
  rw [if_neg h2]
  by_cases h3 : (if m < 0 then 0 else m) < (Pk.numL (l.take 2) : Int)
  · rw [if_pos h3]; simp
  rw [if_neg h3]
  by_cases h4 : l.length < 2 + Pk.numL (l.take 2)
  · rw [if_pos h4]; simp
  rw [if_neg h4]
  show ((l.take (2 + Pk.numL (l.take 2))).drop 2).length ≤ _
  have := Pk.numL_lt 2 (l.take 2) (by rw [List.length_take]; omega)
  rw [List.length_drop, List.length_take]
  have p2 : (256 : Nat) ^ 2 = 65536 := rfl
  omega
theorem rawR_len (l : List UInt8) (e : Int) : (Pk.btx (Pk.rawR 32 l e).1).size ≤ 32 := by
  rw [Pk.mk_size]
  unfold Pk.rawR
  by_cases h1 : e ≠ 0
  · rw [if_pos h1]; simp
  rw [if_neg h1, if_neg n32]
  by_cases h2 : (l.length : Int) < 32
  · rw [if_pos h2]; simp
  rw [if_neg h2]
  show (l.take 32).length ≤ 32
  rw [List.length_take]; omega
theorem takeP_len (l : List UInt8) (e : Int) : (takeP l e).1.1.length ≤ maxLen := by
  have h1 : (takeA l e).1.length < 256 := by
    unfold takeA
    rw [rawsR_len]
    obtain ⟨n, hn, h⟩ := num1 l e
    rw [hn]; omega
  have h2 : (takeP l e).1.1.length ≤ (takeA l e).1.length := by
    show (idsT (takeA l e)).length ≤ _
    unfold idsT
    split
    · exact Nat.le_refl _
    · simp
  exact Nat.le_trans (Nat.le_of_lt (Nat.lt_of_le_of_lt h2 h1)) (by decide)
theorem listP_len (l : List UInt8) (e : Int) : (listP l e).1.length ≤ maxLen := by
  have h1 : (listP l e).1.length < 256 := by
    show (repR tgP (Pk.numR 1 l e).1.toNat _ _).1.length < 256
    rw [repR_len]
    obtain ⟨n, hn, h⟩ := num1 l e
    rw [hn]; omega
  exact Nat.le_trans (Nat.le_of_lt h1) (by decide)
theorem fld_len (k v x : Int) (l : List UInt8) (e : Int) : DcOk ⟨k, v, x, (fldR k l e).1⟩ := by
  have z : (0 : Nat) ≤ maxLen := Nat.zero_le _
  have z2 : (0 : Nat) ≤ 140737488355328 := Nat.zero_le _
  by_cases h1 : k = 1
  · subst h1
    exact ⟨takeP_len _ _, takeP_len _ _, takeP_len _ _, takeP_len _ _, takeP_len _ _, z, textR_len _ _ _, z2, z2⟩
  by_cases h2 : k = 2
  · subst h2
    exact ⟨z, z, z, z, z, listP_len _ _, z2, z2, z2⟩
  by_cases h3 : k = 3
  · subst h3
    exact ⟨z, z, z, z, z, z, z2, textR_len _ _ _, Nat.le_trans (rawR_len _ _) (by decide)⟩
  by_cases h4 : k = 4
  · subst h4
    exact ⟨z, z, z, z, z, z, z2, z2, z2⟩
  have e3 : (fldR k l e).1 = fl0 := by rw [fldR, if_neg h1, if_neg h2, if_neg h3, if_neg h4]
  rw [e3]
  exact ⟨z, z, z, z, z, z, z2, z2, z2⟩
theorem rd_len (l : List UInt8) (e : Int) : DcOk (rdD l e).1 := fld_len _ _ _ _ _
theorem DcR.base {B C : Nat} {w : World} {z : Sl} {d : Dc} (h : DcR B w z d) (hC : C ≤ B) : DcR C w z d := ⟨h.p0.base hC, h.p1.base hC, h.p2.base hC, h.p3.base hC, h.pw.base hC, h.pl.base hC⟩
theorem DcR.below {B : Nat} {w w' : World} {z : Sl} {d : Dc} (h : DcR B w z d) (hb : Below w.heap.size w w') : DcR B w' z d :=
  ⟨h.p0.here hb, h.p1.here hb, h.p2.here hb, h.p3.here hb, h.pw.here hb, h.pl.chg (chg0 (S := fun _ => False) hb) fun _ _ h => h⟩
theorem results_doc {P : Program} {fn : Func} {tmps : Array Value} {a t2 : Nat} {b2 : Addr} {t : TypeId} {v u : Value} {w : World} (hr : fn.results = #[.cell a t, .tmp t2]) (ha : tmps.getD a undef = .pointer (some b2)) (hl : (loadVar t b2).run P w = .ok v w) (hu : tmps.getD t2 undef = u) : (results fn tmps).run P w = .ok (.tuple #[v, u]) w := by
  have e : (asAddr (tmps.getD a undef)).run P w = .ok b2 w := by rw [ha]; rfl
  unfold results
  rw [hr]
  simp only [Array.mapM_eq_mapM_toList, List.mapM_cons, List.mapM_nil, Sem.run_bind, Sem.run_pure, Sem.run_map, e, hl, hu, Result.andThen_ok, bind_assoc, pure_bind]
  rfl
/-- The result's own block takes the document. -/
theorem dec_end {w W1 wc wz : World} {b2 : Nat} {d0 d : Dc} {z0 z : Sl} (hb2 : w.heap.size = b2) (hB1 : Below w.heap.size w W1) (hb : Below W1.heap.size W1 wc) (hS : Pk.Blk wc b2 (docL d0 z0) 46) (hr : DcR W1.heap.size wc z d) (hz : wc.setCells b2 0 (docL d z) = wz) :
    Pk.Blk wz b2 (docL d z) 46 ∧ DcR w.heap.size wz z d ∧ Below w.heap.size w wz := by
  have hc : Pk.Chg (fun k => k = b2) wc wz := by rw [← hz]; exact chg_setCells (S := fun k => k = b2) rfl _ _ _ (Pk.Chg.refl _ _)
  refine ⟨by rw [← hz]; exact blk_all hS rfl, (hr.base hB1.size).chg hS (by decide) (by decide) hc, ?_⟩
  have h2 := mono_bel hB1 hb (Nat.le_refl _)
  exact h2.trans (hc.below h2.size fun _ hi => by rw [hi, ← hb2]; exact Nat.le_refl _)
theorem load_doc {w : World} {b : Nat} {d : Dc} {z : Sl} (h : Pk.Blk w b (docL d z) 46) : (loadVar 46 ⟨b, 0, none⟩).run Tryz.prog w = .ok (docV d z) w :=
  run_loadVar_mid w b 0 46 (docL d z) _ (blk_range h) Tryz.underlying46 rfl (doc_size d z)
set_option maxHeartbeats 3200000 in
set_option maxRecDepth 100000 in
theorem decode_any (s : ByteArray) (B : Nat) (w : World) (hL : NL B w) (hB : B ≤ w.heap.size) :
    Calls Tryz.prog 10 #[.string s] w fun e w' => DecS w.heap.size s.data.toList e w' ∧ Below w.heap.size w w' := by
  obtain ⟨W1, hW1, hB1, hS1⟩ := doc_new w dc0 zz0 46
  have hW1 : w.alloc (.cells #[.int .i64 0, .int .i64 0, .int .i64 0, .slice none 0 0, .int .i64 0, .slice none 0 0, .int .i64 0, .slice none 0 0, .int .i64 0, .slice none 0 0, .int .i64 0, .slice none 0 0, .int .i64 0, .string ⟨#[]⟩, .string ⟨#[]⟩, .slice none 0 0, .string ⟨#[]⟩, .int .i64 0, .string ⟨#[]⟩, .int .i64 0, .string ⟨#[]⟩] 46) = W1 := hW1
  have hq := Pk.read_new s W1
  obtain ⟨l, hl⟩ : ∃ l, s.data.toList = l := ⟨_, rfl⟩
  rw [hl] at hq ⊢
  have hLB := Box.mk fun (w' : World) (hb : Below w.heap.size w w') => (⟨hL.here hB hb, by have := hb.size; omega⟩ : NL B w' ∧ B ≤ w'.heap.size)
  have hlt := hS1.lt
  obtain ⟨b2, hb2⟩ : ∃ b2, w.heap.size = b2 := ⟨_, rfl⟩
  obtain ⟨br, hbr⟩ : ∃ br, W1.heap.size = br := ⟨_, rfl⟩
  rw [hb2] at hS1
  have hS1 := Box.mk hS1
  rw [hbr] at hq
  replace hq := Box.mk hq
  clear hl hL hB
  go_enter Tryz.func10, Tryz.ntmps10
  go_wp2_with fail
  refine hq.out.mono ?_
  clear hq
  rintro r w2 ⟨rfl, hra, hbe⟩
  rw [← hbr] at hbe
  -- the reader, and what was there ahead
  have hR : Box (Pk.RAt w2 br 107 l 0 ∧ Below W1.heap.size W1 w2) := ⟨hra, hbe⟩
  clear hra hbe
  have hq := Pk.rbyte_any br l 0 w2 hR.out.1
  obtain ⟨X, hX⟩ : ∃ x, Pk.numR 1 l 0 = x := ⟨_, rfl⟩
  rw [hX] at hq
  replace hq := Box.mk hq
  go_wp2_with fail
  refine hq.out.mono ?_
  clear hq
  rintro r wa ⟨rfl, hn⟩
  replace hR : Box (Pk.RAt wa br 107 X.2.1 X.2.2 ∧ Below W1.heap.size W1 wa) := ⟨hn.at_, hR.out.2.trans (hn.chg.below hR.out.2.size fun _ hi => by rw [hi, ← hbr]; exact Nat.le_refl _)⟩
  clear hn
  have hq := Pk.rtwo_any br X.2.1 X.2.2 wa hR.out.1
  obtain ⟨Y, hY⟩ : ∃ x, Pk.numR 2 X.2.1 X.2.2 = x := ⟨_, rfl⟩
  rw [hY] at hq
  replace hq := Box.mk hq
  go_wp2_with fail
  refine hq.out.mono ?_
  clear hq
  rintro r wa ⟨rfl, hn⟩
  replace hR : Box (Pk.RAt wa br 107 Y.2.1 Y.2.2 ∧ Below W1.heap.size W1 wa) := ⟨hn.at_, hR.out.2.trans (hn.chg.below hR.out.2.size fun _ hi => by rw [hi, ← hbr]; exact Nat.le_refl _)⟩
  clear hn
  have hq := Pk.reight_any br Y.2.1 Y.2.2 wa hR.out.1
  obtain ⟨V, hV⟩ : ∃ x, Pk.numR 8 Y.2.1 Y.2.2 = x := ⟨_, rfl⟩
  rw [hV] at hq
  replace hq := Box.mk hq
  go_wp2_with fail
  refine hq.out.mono ?_
  clear hq
  rintro r wa ⟨rfl, hn⟩
  replace hR : Box (Pk.RAt wa br 107 V.2.1 V.2.2 ∧ Below W1.heap.size W1 wa) := ⟨hn.at_, hR.out.2.trans (hn.chg.below hR.out.2.size fun _ hi => by rw [hi, ← hbr]; exact Nat.le_refl _)⟩
  clear hn
  obtain ⟨W6, hW6⟩ : ∃ W6, wa.alloc (.cells #[.int .i64 0, .int .i64 0, .int .i64 0, .slice none 0 0, .int .i64 0, .slice none 0 0, .int .i64 0, .slice none 0 0, .int .i64 0, .slice none 0 0, .int .i64 0, .slice none 0 0, .int .i64 0, .string ⟨#[]⟩, .string ⟨#[]⟩, .slice none 0 0, .string ⟨#[]⟩, .int .i64 0, .string ⟨#[]⟩, .int .i64 0, .string ⟨#[]⟩] 46) = W6 := ⟨_, rfl⟩
  have hb6 : Below wa.heap.size wa W6 := by rw [← hW6]; exact bel_alloc _ _
  have hS6 : Box (Pk.Blk W6 wa.heap.size (docL dc0 zz0) 46) := ⟨by rw [← hW6]; exact Pk.Blk.new wa (docL dc0 zz0) _⟩
  obtain ⟨bd, hbd⟩ : ∃ bd, wa.heap.size = bd := ⟨_, rfl⟩
  have hltr := Pk.Blk.lt hR.out.1
  have hbd1 : W1.heap.size ≤ bd := by have := hR.out.2.size; omega
  have hra6 : Pk.RAt W6 br 107 V.2.1 V.2.2 := blk_here (show Pk.Blk wa _ _ _ from hR.out.1) hb6
  have hbe6 : Below W1.heap.size W1 W6 := mono_bel hR.out.2 hb6 (Nat.le_refl _)
  rw [hbd] at hS6
  have hE : Rd2 W1 (W6.setCells bd 0 (docL ⟨X.1, Y.1, V.1, fl0⟩ zz0)) br bd 107 V.2.1 V.2.2 ⟨X.1, Y.1, V.1, fl0⟩ zz0 := by
    have hc : Pk.Chg (fun k => k = bd) W6 (W6.setCells bd 0 (docL ⟨X.1, Y.1, V.1, fl0⟩ zz0)) := chg_setCells (S := fun k => k = bd) rfl _ _ _ (Pk.Chg.refl _ _)
    exact ⟨hc.blk (show Pk.Blk W6 _ _ _ from hra6) (by omega), blk_all hS6.out rfl, DcR.empty _ _ _ _ _, hbe6.trans (hc.below hbe6.size fun _ hi => by rw [hi]; exact hbd1), by omega, hbd1, by omega, by decide, by decide⟩
  replace hE := Box.mk hE
  clear hR hra6 hbe6 hb6 hltr
  go_wp2_with (first
    | (refine wpList_buildD rfl 46 [(0, .tmp 9), (1, .tmp 11), (2, .tmp 13)] rfl [(0, .int .i64 X.1), (1, .int .i64 Y.1), (2, .int .i64 V.1)] rfl (docL ⟨X.1, Y.1, V.1, fl0⟩ zz0) (built_doc _ _ _) ?_)
    | (refine wpList_store_doc rfl (.tmp 5) (.tmp 14) rfl bd ⟨X.1, Y.1, V.1, fl0⟩ zz0 rfl rfl hS6.out rfl ?_; intro w7 hw7; (try rw [hW6] at hw7); rw [hw7] at hE; clear hw7))
  have hq := Box.mk (takefields_any hE.out)
  obtain ⟨F, hF⟩ : ∃ F, fldR X.1 V.2.1 V.2.2 = F := ⟨_, rfl⟩
  rw [hF] at hq
  have eD : Box (rdD l 0 = (⟨X.1, Y.1, V.1, F.1⟩, F.2)) := ⟨by rw [← hF, ← hV, ← hY, ← hX]; rfl⟩
  obtain ⟨D, hD⟩ : ∃ D, (⟨X.1, Y.1, V.1, F.1⟩ : Dc) = D := ⟨_, rfl⟩
  rw [hD] at hq eD
  have hok : DcOk D := by have := rd_len l 0; rw [eD.out] at this; exact this
  clear hE hF hD
  refine hq.out.mono ?_
  clear hq
  rintro r w8 ⟨rfl, z, hz⟩
  have hq := Box.mk (Pk.end_any br F.2.1 F.2.2 w8 hz.rat)
  have hR := Box.mk hz
  clear hz
  obtain ⟨E, hE⟩ : ∃ E, Pk.endE F.2.1 F.2.2 = E := ⟨_, rfl⟩
  rw [hE] at hq
  go_wp2_with fail
  refine hq.out.mono ?_
  clear hq
  rintro r w9 ⟨rfl, hn⟩
  replace hR := Box.mk (hR.out.rd hn)
  clear hn
  have hbe := Box.mk hR.out.bel
  have hS2 := Box.mk (blk_here hS1.out ((hbe.out)))
  by_cases hE0 : E = 0
  · subst hE0
    obtain ⟨hl1, hl2⟩ := hLB.out w9 (mono_bel hB1.out hbe.out (Nat.le_refl _))
    have hq := Box.mk (mcheck_any D z B w9 hl1 hl2 hR.out.rows.at_ hok)
    have hD := Box.mk hR.out.blk
    cases hc : chkD D with
    | true =>
      have eC : chkDE D = 0 := by unfold chkDE; rw [hc]; rfl
      rw [eC] at hq
      have hdec : Box (decM l = (D, 0)) := ⟨by unfold decM; rw [eD.out, if_pos ⟨hE, hc⟩]⟩
      clear eC hc hE eD hok hl1 hl2
      go_wp2_with (refine wpList_loadG (by rfl) 46 (.tmp 5) rfl bd 0 rfl (docL D z) _ (blk_range hD.out) Tryz.underlying46 rfl (doc_size _ _) ?_)
      refine hq.out.mono ?_
      clear hq
      rintro r wc ⟨rfl, hb⟩
      replace hbe := Box.mk (mono_bel hbe.out hb (Nat.le_refl _))
      have hrw := Box.mk (hR.out.rows.below hb)
      replace hD := Box.mk (blk_here hD.out hb)
      replace hS2 := Box.mk (blk_here hS2.out hb)
      clear hb hR
      go_wp2_with (first | (refine wpList_loadG (by rfl) 46 (.tmp 5) rfl bd 0 rfl (docL D z) _ (blk_range hD.out) Tryz.underlying46 rfl (doc_size _ _) ?_) | (refine wpList_store_doc rfl (.tmp 2) (.tmp 26) rfl b2 D z rfl rfl hS2.out rfl ?_; intro wz hwz; replace hwz := Box.mk hwz))
      obtain ⟨z1, z2, z3⟩ := dec_end hb2 hB1.out hbe.out hS2.out hrw.out hwz.out
      have zl := load_doc z1
      exact bodyPost_ret (v := .tuple #[docV D z, .int .i64 0]) (results_doc Tryz.results10 rfl zl rfl) rfl ⟨⟨z, by rw [hdec.out], by rw [hdec.out]; exact z2⟩, z3⟩
    | false =>
      have eC : chkDE D = 1 := by unfold chkDE; rw [hc]; rfl
      rw [eC] at hq
      have hdec : Box (decM l = (dc0, 3)) := ⟨by unfold decM; rw [eD.out, if_neg (by rw [hc]; simp)]⟩
      clear eC hc hE eD hok hl1 hl2
      go_wp2_with (refine wpList_loadG (by rfl) 46 (.tmp 5) rfl bd 0 rfl (docL D z) _ (blk_range hD.out) Tryz.underlying46 rfl (doc_size _ _) ?_)
      refine hq.out.mono ?_
      clear hq
      rintro r wc ⟨rfl, hb⟩
      replace hbe := Box.mk (mono_bel hbe.out hb (Nat.le_refl _))
      have hrw := Box.mk (DcR.zero W1.heap.size wc)
      replace hS2 := Box.mk (blk_here hS2.out hb)
      clear hb hR
      go_wp2_with (first | (refine wpList_buildD rfl 46 [] rfl [] rfl (docL dc0 zz0) built_zero ?_) | (refine wpList_store_doc rfl (.tmp 2) (.tmp 25) rfl b2 dc0 zz0 rfl rfl hS2.out rfl ?_; intro wz hwz; replace hwz := Box.mk hwz))
      obtain ⟨z1, z2, z3⟩ := dec_end hb2 hB1.out hbe.out hS2.out hrw.out hwz.out
      have zl := load_doc z1
      exact bodyPost_ret (v := .tuple #[docV dc0 zz0, .int .i64 3]) (results_doc Tryz.results10 rfl zl rfl) rfl ⟨⟨zz0, by rw [hdec.out], by rw [hdec.out]; exact z2⟩, z3⟩
  · have hEd : (E != 0) = true := by simpa using hE0
    have hdec : Box (decM l = (dc0, 3)) := ⟨by unfold decM; rw [eD.out, if_neg (fun h => hE0 (hE.symm.trans h.1))]⟩
    have hrw := Box.mk (DcR.zero W1.heap.size w9)
    clear hE hE0 hR eD hok
    go_wp2_with (first | (refine wpList_buildD rfl 46 [] rfl [] rfl (docL dc0 zz0) built_zero ?_) | (refine wpList_store_doc rfl (.tmp 2) (.tmp 25) rfl b2 dc0 zz0 rfl rfl hS2.out rfl ?_; intro wz hwz; replace hwz := Box.mk hwz))
    obtain ⟨z1, z2, z3⟩ := dec_end hb2 hB1.out hbe.out hS2.out hrw.out hwz.out
    have zl := load_doc z1
    exact bodyPost_ret (v := .tuple #[docV dc0 zz0, .int .i64 3]) (results_doc Tryz.results10 rfl zl rfl) rfl ⟨⟨zz0, by rw [hdec.out], by rw [hdec.out]; exact z2⟩, z3⟩
end Go.Proofs.YthkfefkcjcgfkaaGreatDoor.Me
