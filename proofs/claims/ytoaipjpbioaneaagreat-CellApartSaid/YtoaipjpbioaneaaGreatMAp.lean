/- The law's step beside any other thing: WhA's walks once more (written by mkwr.py). | Two cells beside one another: what the law's alike calls. | The law's alike: a call of one cell, and the other one that has had it already. | CellApart: two cells on one device, and two of the law's worlds: what each call does to all of it. | CellApart: a round of the law on all that it keeps. | A world of the law opened, beside any other thing. | CellApart: the worlds begun and opened, told beside one another. | CellApart behind its loop: both regions opened anew. -/
import Derived.Deep.CutRange
import Derived.Test.YtoaipjpbioaneaaGreatMWh
namespace Go.Proofs.YtoaipjpbioaneaaGreat
open Go.RowKit Go.Maps

/-- The cell on its device and the document's, beside another thing. -/
def TwoR (R : Obj) (bd bc bw bq base half : Nat) (D : Dev) (M : CellM) : Obj := Pair2 (Pair2 (DevO bd D) (CelO bd bc base half M)) (Pair2 (Pair2 (QO bw D) (XelO bw bq base half M)) R)
theorem TwoR.good {R : Obj} (gR : Good R) {bd bc bw bq base half : Nat} {D : Dev} {M : CellM} : Good (TwoR R bd bc bw bq base half D M) := Pair2.good (Pair2.good (DevO.good _ _) (CelO.good _ _ _ _ _)) (Pair2.good (Pair2.good (QO.good _ _) (XelO.good _ _ _ _ _)) gR)
/-- The law's world with all that it points to, beside another thing. -/
def AllR (R : Obj) (ba bd bc bw bq base half : Nat) (D : Dev) (M : CellM) : Obj := Pair2 (BlkO ba (WorC bd bc bw bq) 41) (TwoR R bd bc bw bq base half D M)
def AllPR (R : Obj) (ba bo bd bc bw bq base half : Nat) (co : List Value) (D : Dev) (M : CellM) : Obj := Pair2 (Pair2 (BlkO ba (WorC bd bc bw bq) 41) (BlkO bo co 31)) (TwoR R bd bc bw bq base half D M)
theorem AllR.good {R : Obj} (gR : Good R) {ba bd bc bw bq base half : Nat} {D : Dev} {M : CellM} : Good (AllR R ba bd bc bw bq base half D M) := Pair2.good (BlkO.good _ _ _) (TwoR.good gR)
theorem Kept.boxR {R : Obj} (gR : Good R) {w0 w : World} {ba bd bc bw bq base half : Nat} {D : Dev} {M : CellM} (h : Kept w0 (AllR R ba bd bc bw bq base half D M) w) (co : List Value) : Kept w0 (AllPR R ba w.heap.size bd bc bw bq base half co D M) (w.alloc (.cells co.toArray 31)) := by
  have h1 : Kept w0 (Pair2 (AllR R ba bd bc bw bq base half D M) (BlkO w.heap.size co 31)) (w.alloc (.cells co.toArray 31)) :=
    h.add (AllR.good gR) ((Below.refl _ _).alloc (Nat.le_refl _) _) (G := fun k => k = w.heap.size) ⟨Blk.new w co _, rfl, fun k hk => by simp [hk]⟩ (BlkO.good _ _ _) (fun k hk => by omega)
  exact h1.conv fun F h => Pair2.assoc' (Pair2.right (Pair2.assoc h) fun _ hx => hx.swap)
theorem Does.twoR {R : Obj} (gR : Good R) {wb : World} {ba bo bd bc bw bq : Nat} {co : List Value} {f : FuncId} {args : Array Value} {v : Value} {B B' : Obj} (h : Does f args B (RetE v B')) {X : Obj} (g : Good X) :
    DoesIn wb f args (Pair2 (Pair2 (BlkO ba (WorC bd bc bw bq) 41) (BlkO bo co 31)) (Pair2 X (Pair2 B R))) (RetE v (Pair2 (Pair2 (BlkO ba (WorC bd bc bw bq) 41) (BlkO bo co 31)) (Pair2 X (Pair2 B' R)))) :=
  ((h.in_.ret gR).ret' g).ret' (Pair2.good (BlkO.good _ _ _) (BlkO.good _ _ _))
section
variable {R : Obj} {wb w : World} {ba bd bc bw bq base half : Nat} {D : Dev} {M : CellM} {k : UInt8} {s t : ByteArray} {n : Int} {v : Value}
set_option maxHeartbeats 3200000 in
set_option maxRecDepth 100000 in
theorem stepR_drop (gR : Good R) (hK : Kept wb (AllR R ba bd bc bw bq base half D M) w) (hk : k.toNat % 10 = 3) (hs : s.size ≤ maxLen) (x y : Int) :
    Calls Tryz.prog 8 #[.pointer (some ⟨ba, 0, none⟩), .agg #[.int .u8 (k.toNat : Int), .string s, .string t, .int .i64 n, v], .int .i64 x, .int .i64 y] w fun e w' => e = .returned (.bool true) ∧ Box (Kept wb (AllR R ba bd bc bw bq base half D { M with now := dropC M.now s.data.toList }) w') := by
  have hB := Kept.boxR gR hK (opC k s t n v)
  obtain ⟨bo, hbo⟩ : ∃ bo, w.heap.size = bo := ⟨_, rfl⟩
  obtain ⟨w1, hw1⟩ : ∃ w1, w.alloc (.cells #[.int .u8 (k.toNat : Int), .string s, .string t, .int .i64 n, v] 31) = w1 := ⟨_, rfl⟩
  rw [show w.alloc (.cells (opC k s t n v).toArray 31) = w1 from hw1, hbo] at hB
  obtain ⟨c1, c3, co⟩ := hB.world
  have o0 : w1.cell? ⟨bo, 0, none⟩ = some (.int .u8 (k.toNat : Int)) := co 0
  have hki : (k.toNat : Int) % 10 = 3 := by omega
  have hBd : Kept wb (AllPR R ba bo bd bc bw bq base half (opC k s t n v) D M) w1.drew := hB.below (Pair2.good (Pair2.good (BlkO.good _ _ _) (BlkO.good _ _ _)) (TwoR.good gR)) (show Below w1.heap.size w1 w1.drew from below_drewN _ w1 1)
  have hP := hBd.step (Does.one ((drop_does bd bc base half M s hs).right (DevO.good _ _)) (Pair2.good (Pair2.good (QO.good _ _) (XelO.good _ _ _ _ _)) gR))
  have d1 : w1.drew.cell? ⟨ba, 1, none⟩ = some (.pointer (some ⟨bc, 0, none⟩)) := c1
  have d3 : w1.drew.cell? ⟨ba, 3, none⟩ = some (.pointer (some ⟨bq, 0, none⟩)) := c3
  have p1 : w1.drew.cell? ⟨bo, 1, none⟩ = some (.string s) := co 1
  have p2 : w1.drew.cell? ⟨bo, 2, none⟩ = some (.string t) := co 2
  have hX := fun w2 (h : Kept wb _ w2) => h.step (Does.twoR gR (bw := bw) (bq := bq) (wb := wb) (ba := ba) (bo := bo) (bd := bd) (bc := bc) (co := opC k s t n v) ((xdrop_does bw bq base half M s).right (QO.good bw D)) (Pair2.good (DevO.good bd (D)) (CelO.good bd bc base half ({ M with now := dropC M.now s.data.toList }))))
  obtain ⟨y1, hy1⟩ : ∃ y1, (getC M.now s.data.toList).isSome = y1 := ⟨_, rfl⟩
  rw [hy1] at hP hX
  replace hP := Box.mk hP
  replace hX := Box.mk hX
  replace hy1 := Box.mk hy1
  clear hB hBd hK co hk
  go_enter Tryz.func8, Tryz.ntmps8
  go_wp2_with fail
  refine region_go (C := fun w' => w'.cell? ⟨ba, 1, none⟩ = some (.pointer (some ⟨bc, 0, none⟩)) ∧ w'.cell? ⟨ba, 3, none⟩ = some (.pointer (some ⟨bq, 0, none⟩)) ∧ w'.cell? ⟨bo, 1, none⟩ = some (.string s) ∧ w'.cell? ⟨bo, 2, none⟩ = some (.string t)) rfl ?_
  refine go_calms [0, 1, 2, 3, 4, 5, 7, 8, 9, 10, 11, 12] 4 rfl (by kernel_rfl) (by kernel_rfl) (by kernel_rfl) ⟨d1, d3, p1, p2⟩ ?_
  simp [nth]
  try simp only [Act.put]
  repeat (go_big_quiet_step (first | exact fun _ => rfl | rfl))
  refine quiet_any rfl (.pointer (some ⟨ba, 0, none⟩)) (fun w' hw' => by go_simp) ?_
  simp only [Act.put, List.setIfInBounds_toArray, List.set_cons_succ, List.set_cons_zero]
  refine quiet_any rfl (.pointer (some ⟨ba, 1, none⟩)) (fun w' hw' => by go_simp) ?_
  simp only [Act.put, List.setIfInBounds_toArray, List.set_cons_succ, List.set_cons_zero]
  refine quiet_any rfl (.pointer (some ⟨bc, 0, none⟩)) (fun w' hw' => by have h := hw'.1; go_simp) ?_
  simp only [Act.put, List.setIfInBounds_toArray, List.set_cons_succ, List.set_cons_zero]
  refine quiet_any rfl (.pointer (some ⟨bo, 1, none⟩)) (fun w' hw' => by go_simp) ?_
  simp only [Act.put, List.setIfInBounds_toArray, List.set_cons_succ, List.set_cons_zero]
  refine quiet_any rfl (.string s) (fun w' hw' => by have h := hw'.2.2.1; go_simp) ?_
  simp only [Act.put, List.setIfInBounds_toArray, List.set_cons_succ, List.set_cons_zero]
  repeat (go_big_quiet_step (first | exact fun _ => rfl | rfl))
  refine quiet_any rfl (.pointer (some ⟨ba, 0, none⟩)) (fun w' hw' => by go_simp) ?_
  simp only [Act.put, List.setIfInBounds_toArray, List.set_cons_succ, List.set_cons_zero]
  refine quiet_any rfl (.pointer (some ⟨ba, 3, none⟩)) (fun w' hw' => by go_simp) ?_
  simp only [Act.put, List.setIfInBounds_toArray, List.set_cons_succ, List.set_cons_zero]
  refine quiet_any rfl (.pointer (some ⟨bq, 0, none⟩)) (fun w' hw' => by have h := hw'.2.1; go_simp) ?_
  simp only [Act.put, List.setIfInBounds_toArray, List.set_cons_succ, List.set_cons_zero]
  refine quiet_any rfl (.pointer (some ⟨bo, 1, none⟩)) (fun w' hw' => by go_simp) ?_
  simp only [Act.put, List.setIfInBounds_toArray, List.set_cons_succ, List.set_cons_zero]
  refine quiet_any rfl (.string s) (fun w' hw' => by have h := hw'.2.2.1; go_simp) ?_
  simp only [Act.put, List.setIfInBounds_toArray, List.set_cons_succ, List.set_cons_zero]
  refine wpQuiet_nil ?_
  refine go_forced 6 (by kernel_rfl) (goOp_wp 6 rfl rfl (fun K hK => ?_))
  go_simp
  refine hP.out.mono ?_
  rintro e w2 ⟨rfl, hk2⟩
  obtain ⟨e1, e3, eo⟩ := hk2.out.world
  refine hK _ _ ⟨e1, e3, eo 1, eo 2⟩ ?_
  clear hK K hP e1 e3 eo
  have hF := Box.mk (hX.out w2 hk2.out)
  refine go_forced 13 (by kernel_rfl) (goOp_wp 13 rfl rfl (fun K hK => ?_))
  go_simp
  refine hF.out.mono ?_
  rintro e w3 ⟨rfl, hk3⟩
  obtain ⟨e1, e3, eo⟩ := hk3.out.world
  have hC3 : w3.cell? ⟨ba, 1, none⟩ = some (.pointer (some ⟨bc, 0, none⟩)) ∧ w3.cell? ⟨ba, 3, none⟩ = some (.pointer (some ⟨bq, 0, none⟩)) ∧ w3.cell? ⟨bo, 1, none⟩ = some (.string s) ∧ w3.cell? ⟨bo, 2, none⟩ = some (.string t) := ⟨e1, e3, eo 1, eo 2⟩
  refine hK _ _ hC3 ?_
  clear hK K hF e1 e3 eo
  refine go_calms [14, 15] 0 rfl (by kernel_rfl) (by kernel_rfl) (by kernel_rfl) hC3 ?_
  simp [nth]
  try simp only [Act.put]
  refine quiet_any rfl (.bool true) (fun w' hw' => by go_simp) ?_
  simp only [Act.put, List.setIfInBounds_toArray, List.set_cons_succ, List.set_cons_zero]
  repeat (go_big_quiet_step (first | exact fun _ => rfl | rfl))
  refine wpQuiet_nil ?_
  refine go_done (by kernel_rfl) ?_
  have hfin := Box.mk (hk3.out.conv fun F h => Pair2.drop h)
  clear hk3 hk2 hX
  go_simp
  go_wp2_with fail
  go_returns
  exact ⟨rfl, hfin⟩
set_option maxHeartbeats 3200000 in
set_option maxRecDepth 100000 in
theorem stepR_put (gR : Good R) (hK : Kept wb (AllR R ba bd bc bw bq base half D M) w) (hk : k.toNat % 10 < 3) (hs : s.size ≤ maxLen) (ht : t.size ≤ maxLen) (x y : Int) :
    Calls Tryz.prog 8 #[.pointer (some ⟨ba, 0, none⟩), .agg #[.int .u8 (k.toNat : Int), .string s, .string t, .int .i64 n, v], .int .i64 x, .int .i64 y] w fun e w' => e = .returned (.bool true) ∧ Box (Kept wb (AllR R ba bd bc bw bq base half D { M with now := putM M.now s.data.toList t.data.toList }) w') := by
  have hB := Kept.boxR gR hK (opC k s t n v)
  obtain ⟨bo, hbo⟩ : ∃ bo, w.heap.size = bo := ⟨_, rfl⟩
  obtain ⟨w1, hw1⟩ : ∃ w1, w.alloc (.cells #[.int .u8 (k.toNat : Int), .string s, .string t, .int .i64 n, v] 31) = w1 := ⟨_, rfl⟩
  rw [show w.alloc (.cells (opC k s t n v).toArray 31) = w1 from hw1, hbo] at hB
  obtain ⟨c1, c3, co⟩ := hB.world
  have o0 : w1.cell? ⟨bo, 0, none⟩ = some (.int .u8 (k.toNat : Int)) := co 0
  obtain ⟨kk, hkk⟩ : ∃ kk : Nat, k.toNat % 10 = kk := ⟨_, rfl⟩
  rw [hkk] at hk
  have hki : (k.toNat : Int) % 10 = (kk : Int) := by omega
  have hk3 : ((kk : Int) == 3) = false := by simp; omega
  have hk4 : ((kk : Int) == 4) = false := by simp; omega
  have hk5 : ((kk : Int) == 5) = false := by simp; omega
  have hk6 : ((kk : Int) == 6) = false := by simp; omega
  have hk7 : ((kk : Int) == 7) = false := by simp; omega
  have hk8 : ((kk : Int) == 8) = false := by simp; omega
  have hk9 : ((kk : Int) == 9) = false := by simp; omega
  clear hkk
  have hBd : Kept wb (AllPR R ba bo bd bc bw bq base half (opC k s t n v) D M) w1.drew := hB.below (Pair2.good (Pair2.good (BlkO.good _ _ _) (BlkO.good _ _ _)) (TwoR.good gR)) (show Below w1.heap.size w1 w1.drew from below_drewN _ w1 1)
  have hP := hBd.step (Does.one ((put_does bd bc base half M s t hs ht).right (DevO.good _ _)) (Pair2.good (Pair2.good (QO.good _ _) (XelO.good _ _ _ _ _)) gR))
  have d1 : w1.drew.cell? ⟨ba, 1, none⟩ = some (.pointer (some ⟨bc, 0, none⟩)) := c1
  have d3 : w1.drew.cell? ⟨ba, 3, none⟩ = some (.pointer (some ⟨bq, 0, none⟩)) := c3
  have p1 : w1.drew.cell? ⟨bo, 1, none⟩ = some (.string s) := co 1
  have p2 : w1.drew.cell? ⟨bo, 2, none⟩ = some (.string t) := co 2
  have hX := fun w2 (h : Kept wb _ w2) => h.step (Does.twoR gR (bw := bw) (bq := bq) (wb := wb) (ba := ba) (bo := bo) (bd := bd) (bc := bc) (co := opC k s t n v) ((xput_does bw bq base half M s t).right (QO.good bw D)) (Pair2.good (DevO.good bd (D)) (CelO.good bd bc base half ({ M with now := putM M.now s.data.toList t.data.toList }))))
  obtain ⟨y1, hy1⟩ : ∃ y1, putE M.now s.data.toList t.data.toList = y1 := ⟨_, rfl⟩
  rw [hy1] at hP hX
  replace hP := Box.mk hP
  replace hX := Box.mk hX
  replace hy1 := Box.mk hy1
  clear hB hBd hK co hk
  go_enter Tryz.func8, Tryz.ntmps8
  go_wp2_with fail
  refine region_go (C := fun w' => w'.cell? ⟨ba, 1, none⟩ = some (.pointer (some ⟨bc, 0, none⟩)) ∧ w'.cell? ⟨ba, 3, none⟩ = some (.pointer (some ⟨bq, 0, none⟩)) ∧ w'.cell? ⟨bo, 1, none⟩ = some (.string s) ∧ w'.cell? ⟨bo, 2, none⟩ = some (.string t)) rfl ?_
  refine go_calms [0, 1, 2, 3, 4, 5, 6, 7, 9, 10, 11, 12, 13, 14, 15, 16] 4 rfl (by kernel_rfl) (by kernel_rfl) (by kernel_rfl) ⟨d1, d3, p1, p2⟩ ?_
  simp [nth]
  try simp only [Act.put]
  repeat (go_big_quiet_step (first | exact fun _ => rfl | rfl))
  refine quiet_any rfl (.pointer (some ⟨ba, 0, none⟩)) (fun w' hw' => by go_simp) ?_
  simp only [Act.put, List.setIfInBounds_toArray, List.set_cons_succ, List.set_cons_zero]
  refine quiet_any rfl (.pointer (some ⟨ba, 1, none⟩)) (fun w' hw' => by go_simp) ?_
  simp only [Act.put, List.setIfInBounds_toArray, List.set_cons_succ, List.set_cons_zero]
  refine quiet_any rfl (.pointer (some ⟨bc, 0, none⟩)) (fun w' hw' => by have h := hw'.1; go_simp) ?_
  simp only [Act.put, List.setIfInBounds_toArray, List.set_cons_succ, List.set_cons_zero]
  refine quiet_any rfl (.pointer (some ⟨bo, 1, none⟩)) (fun w' hw' => by go_simp) ?_
  simp only [Act.put, List.setIfInBounds_toArray, List.set_cons_succ, List.set_cons_zero]
  refine quiet_any rfl (.string s) (fun w' hw' => by have h := hw'.2.2.1; go_simp) ?_
  simp only [Act.put, List.setIfInBounds_toArray, List.set_cons_succ, List.set_cons_zero]
  refine quiet_any rfl (.pointer (some ⟨bo, 2, none⟩)) (fun w' hw' => by go_simp) ?_
  simp only [Act.put, List.setIfInBounds_toArray, List.set_cons_succ, List.set_cons_zero]
  refine quiet_any rfl (.string t) (fun w' hw' => by have h := hw'.2.2.2; go_simp) ?_
  simp only [Act.put, List.setIfInBounds_toArray, List.set_cons_succ, List.set_cons_zero]
  repeat (go_big_quiet_step (first | exact fun _ => rfl | rfl))
  refine quiet_any rfl (.pointer (some ⟨ba, 0, none⟩)) (fun w' hw' => by go_simp) ?_
  simp only [Act.put, List.setIfInBounds_toArray, List.set_cons_succ, List.set_cons_zero]
  refine quiet_any rfl (.pointer (some ⟨ba, 3, none⟩)) (fun w' hw' => by go_simp) ?_
  simp only [Act.put, List.setIfInBounds_toArray, List.set_cons_succ, List.set_cons_zero]
  refine quiet_any rfl (.pointer (some ⟨bq, 0, none⟩)) (fun w' hw' => by have h := hw'.2.1; go_simp) ?_
  simp only [Act.put, List.setIfInBounds_toArray, List.set_cons_succ, List.set_cons_zero]
  refine quiet_any rfl (.pointer (some ⟨bo, 1, none⟩)) (fun w' hw' => by go_simp) ?_
  simp only [Act.put, List.setIfInBounds_toArray, List.set_cons_succ, List.set_cons_zero]
  refine quiet_any rfl (.string s) (fun w' hw' => by have h := hw'.2.2.1; go_simp) ?_
  simp only [Act.put, List.setIfInBounds_toArray, List.set_cons_succ, List.set_cons_zero]
  refine quiet_any rfl (.pointer (some ⟨bo, 2, none⟩)) (fun w' hw' => by go_simp) ?_
  simp only [Act.put, List.setIfInBounds_toArray, List.set_cons_succ, List.set_cons_zero]
  refine quiet_any rfl (.string t) (fun w' hw' => by have h := hw'.2.2.2; go_simp) ?_
  simp only [Act.put, List.setIfInBounds_toArray, List.set_cons_succ, List.set_cons_zero]
  refine wpQuiet_nil ?_
  refine go_forced 8 (by kernel_rfl) (goOp_wp 8 rfl rfl (fun K hK => ?_))
  go_simp
  refine hP.out.mono ?_
  rintro e w2 ⟨rfl, hk2⟩
  obtain ⟨e1, e3, eo⟩ := hk2.out.world
  refine hK _ _ ⟨e1, e3, eo 1, eo 2⟩ ?_
  clear hK K hP e1 e3 eo
  have hF := Box.mk (hX.out w2 hk2.out)
  refine go_forced 17 (by kernel_rfl) (goOp_wp 17 rfl rfl (fun K hK => ?_))
  go_simp
  refine hF.out.mono ?_
  rintro e w3 ⟨rfl, hk3⟩
  obtain ⟨e1, e3, eo⟩ := hk3.out.world
  have hC3 : w3.cell? ⟨ba, 1, none⟩ = some (.pointer (some ⟨bc, 0, none⟩)) ∧ w3.cell? ⟨ba, 3, none⟩ = some (.pointer (some ⟨bq, 0, none⟩)) ∧ w3.cell? ⟨bo, 1, none⟩ = some (.string s) ∧ w3.cell? ⟨bo, 2, none⟩ = some (.string t) := ⟨e1, e3, eo 1, eo 2⟩
  refine hK _ _ hC3 ?_
  clear hK K hF e1 e3 eo
  refine go_calms [18, 19] 0 rfl (by kernel_rfl) (by kernel_rfl) (by kernel_rfl) hC3 ?_
  simp [nth]
  try simp only [Act.put]
  refine quiet_any rfl (.bool true) (fun w' hw' => by go_simp) ?_
  simp only [Act.put, List.setIfInBounds_toArray, List.set_cons_succ, List.set_cons_zero]
  repeat (go_big_quiet_step (first | exact fun _ => rfl | rfl))
  refine wpQuiet_nil ?_
  refine go_done (by kernel_rfl) ?_
  have hfin := Box.mk (hk3.out.conv fun F h => Pair2.drop h)
  clear hk3 hk2 hX
  go_simp
  go_wp2_with fail
  go_returns
  exact ⟨rfl, hfin⟩
set_option maxHeartbeats 3200000 in
set_option maxRecDepth 100000 in
theorem stepR_commit5 (gR : Good R) (hK : Kept wb (AllR R ba bd bc bw bq base half D M) w) (hk : k.toNat % 10 = 5) (hin : base + 2 * half ≤ D.safe.length) (hkt : D.taken ≤ 100000) (hf : D.fall ≤ 9223372036854775807) (hws : D.ws.length ≤ 100000) (hnum : M.num < 1000000) (x y : Int) :
    Calls Tryz.prog 8 #[.pointer (some ⟨ba, 0, none⟩), .agg #[.int .u8 (k.toNat : Int), .string s, .string t, .int .i64 n, v], .int .i64 x, .int .i64 y] w fun e w' => e = .returned (.bool true) ∧ Box (Kept wb (AllR R ba bd bc bw bq base half (commitD base half D M) (commitC base half D M)) w') := by
  have hB := Kept.boxR gR hK (opC k s t n v)
  obtain ⟨bo, hbo⟩ : ∃ bo, w.heap.size = bo := ⟨_, rfl⟩
  obtain ⟨w1, hw1⟩ : ∃ w1, w.alloc (.cells #[.int .u8 (k.toNat : Int), .string s, .string t, .int .i64 n, v] 31) = w1 := ⟨_, rfl⟩
  rw [show w.alloc (.cells (opC k s t n v).toArray 31) = w1 from hw1, hbo] at hB
  obtain ⟨c1, c3, co⟩ := hB.world
  have o0 : w1.cell? ⟨bo, 0, none⟩ = some (.int .u8 (k.toNat : Int)) := co 0
  have hki : (k.toNat : Int) % 10 = 5 := by omega
  have hBd : Kept wb (AllPR R ba bo bd bc bw bq base half (opC k s t n v) D M) w1.drew := hB.below (Pair2.good (Pair2.good (BlkO.good _ _ _) (BlkO.good _ _ _)) (TwoR.good gR)) (show Below w1.heap.size w1 w1.drew from below_drewN _ w1 1)
  have hP := hBd.step (Does.one (commit_does bd bc base half D M hkt hf hws hnum) (Pair2.good (Pair2.good (QO.good _ _) (XelO.good _ _ _ _ _)) gR))
  have d1 : w1.drew.cell? ⟨ba, 1, none⟩ = some (.pointer (some ⟨bc, 0, none⟩)) := c1
  have d3 : w1.drew.cell? ⟨ba, 3, none⟩ = some (.pointer (some ⟨bq, 0, none⟩)) := c3
  have p1 : w1.drew.cell? ⟨bo, 1, none⟩ = some (.string s) := co 1
  have p2 : w1.drew.cell? ⟨bo, 2, none⟩ = some (.string t) := co 2
  have hX := fun w2 (h : Kept wb _ w2) => h.step (Does.twoR gR (bw := bw) (bq := bq) (wb := wb) (ba := ba) (bo := bo) (bd := bd) (bc := bc) (co := opC k s t n v) (xcommit_does bw bq base half D M hin hkt hf hws hnum) (Pair2.good (DevO.good bd ((commitD base half D M))) (CelO.good bd bc base half ((commitC base half D M)))))
  obtain ⟨y1, hy1⟩ : ∃ y1, commitE base half D M = y1 := ⟨_, rfl⟩
  rw [hy1] at hP hX
  replace hP := Box.mk hP
  replace hX := Box.mk hX
  replace hy1 := Box.mk hy1
  clear hB hBd hK co hk
  go_enter Tryz.func8, Tryz.ntmps8
  go_wp2_with fail
  refine region_go (C := fun w' => w'.cell? ⟨ba, 1, none⟩ = some (.pointer (some ⟨bc, 0, none⟩)) ∧ w'.cell? ⟨ba, 3, none⟩ = some (.pointer (some ⟨bq, 0, none⟩)) ∧ w'.cell? ⟨bo, 1, none⟩ = some (.string s) ∧ w'.cell? ⟨bo, 2, none⟩ = some (.string t)) rfl ?_
  refine go_calms [0, 1, 2, 3, 5, 6, 7, 8] 4 rfl (by kernel_rfl) (by kernel_rfl) (by kernel_rfl) ⟨d1, d3, p1, p2⟩ ?_
  simp [nth]
  try simp only [Act.put]
  repeat (go_big_quiet_step (first | exact fun _ => rfl | rfl))
  refine quiet_any rfl (.pointer (some ⟨ba, 0, none⟩)) (fun w' hw' => by go_simp) ?_
  simp only [Act.put, List.setIfInBounds_toArray, List.set_cons_succ, List.set_cons_zero]
  refine quiet_any rfl (.pointer (some ⟨ba, 1, none⟩)) (fun w' hw' => by go_simp) ?_
  simp only [Act.put, List.setIfInBounds_toArray, List.set_cons_succ, List.set_cons_zero]
  refine quiet_any rfl (.pointer (some ⟨bc, 0, none⟩)) (fun w' hw' => by have h := hw'.1; go_simp) ?_
  simp only [Act.put, List.setIfInBounds_toArray, List.set_cons_succ, List.set_cons_zero]
  repeat (go_big_quiet_step (first | exact fun _ => rfl | rfl))
  refine quiet_any rfl (.pointer (some ⟨ba, 0, none⟩)) (fun w' hw' => by go_simp) ?_
  simp only [Act.put, List.setIfInBounds_toArray, List.set_cons_succ, List.set_cons_zero]
  refine quiet_any rfl (.pointer (some ⟨ba, 3, none⟩)) (fun w' hw' => by go_simp) ?_
  simp only [Act.put, List.setIfInBounds_toArray, List.set_cons_succ, List.set_cons_zero]
  refine quiet_any rfl (.pointer (some ⟨bq, 0, none⟩)) (fun w' hw' => by have h := hw'.2.1; go_simp) ?_
  simp only [Act.put, List.setIfInBounds_toArray, List.set_cons_succ, List.set_cons_zero]
  refine wpQuiet_nil ?_
  refine go_forced 4 (by kernel_rfl) (goOp_wp 4 rfl rfl (fun K hK => ?_))
  go_simp
  refine hP.out.mono ?_
  rintro e w2 ⟨rfl, hk2⟩
  obtain ⟨e1, e3, eo⟩ := hk2.out.world
  refine hK _ _ ⟨e1, e3, eo 1, eo 2⟩ ?_
  clear hK K hP e1 e3 eo
  have hF := Box.mk (hX.out w2 hk2.out)
  refine go_forced 9 (by kernel_rfl) (goOp_wp 9 rfl rfl (fun K hK => ?_))
  go_simp
  refine hF.out.mono ?_
  rintro e w3 ⟨rfl, hk3⟩
  obtain ⟨e1, e3, eo⟩ := hk3.out.world
  have hC3 : w3.cell? ⟨ba, 1, none⟩ = some (.pointer (some ⟨bc, 0, none⟩)) ∧ w3.cell? ⟨ba, 3, none⟩ = some (.pointer (some ⟨bq, 0, none⟩)) ∧ w3.cell? ⟨bo, 1, none⟩ = some (.string s) ∧ w3.cell? ⟨bo, 2, none⟩ = some (.string t) := ⟨e1, e3, eo 1, eo 2⟩
  refine hK _ _ hC3 ?_
  clear hK K hF e1 e3 eo
  refine go_calms [10, 11] 0 rfl (by kernel_rfl) (by kernel_rfl) (by kernel_rfl) hC3 ?_
  simp [nth]
  try simp only [Act.put]
  refine quiet_any rfl (.bool true) (fun w' hw' => by go_simp) ?_
  simp only [Act.put, List.setIfInBounds_toArray, List.set_cons_succ, List.set_cons_zero]
  repeat (go_big_quiet_step (first | exact fun _ => rfl | rfl))
  refine wpQuiet_nil ?_
  refine go_done (by kernel_rfl) ?_
  have hfin := Box.mk (hk3.out.conv fun F h => Pair2.drop h)
  clear hk3 hk2 hX
  go_simp
  go_wp2_with fail
  go_returns
  exact ⟨rfl, hfin⟩
set_option maxHeartbeats 3200000 in
set_option maxRecDepth 100000 in
theorem stepR_commit6 (gR : Good R) (hK : Kept wb (AllR R ba bd bc bw bq base half D M) w) (hk : k.toNat % 10 = 6) (hin : base + 2 * half ≤ D.safe.length) (hkt : D.taken ≤ 100000) (hf : D.fall ≤ 9223372036854775807) (hws : D.ws.length ≤ 100000) (hnum : M.num < 1000000) (x y : Int) :
    Calls Tryz.prog 8 #[.pointer (some ⟨ba, 0, none⟩), .agg #[.int .u8 (k.toNat : Int), .string s, .string t, .int .i64 n, v], .int .i64 x, .int .i64 y] w fun e w' => e = .returned (.bool true) ∧ Box (Kept wb (AllR R ba bd bc bw bq base half (commitD base half D M) (commitC base half D M)) w') := by
  have hB := Kept.boxR gR hK (opC k s t n v)
  obtain ⟨bo, hbo⟩ : ∃ bo, w.heap.size = bo := ⟨_, rfl⟩
  obtain ⟨w1, hw1⟩ : ∃ w1, w.alloc (.cells #[.int .u8 (k.toNat : Int), .string s, .string t, .int .i64 n, v] 31) = w1 := ⟨_, rfl⟩
  rw [show w.alloc (.cells (opC k s t n v).toArray 31) = w1 from hw1, hbo] at hB
  obtain ⟨c1, c3, co⟩ := hB.world
  have o0 : w1.cell? ⟨bo, 0, none⟩ = some (.int .u8 (k.toNat : Int)) := co 0
  have hki : (k.toNat : Int) % 10 = 6 := by omega
  have hBd : Kept wb (AllPR R ba bo bd bc bw bq base half (opC k s t n v) D M) w1.drew := hB.below (Pair2.good (Pair2.good (BlkO.good _ _ _) (BlkO.good _ _ _)) (TwoR.good gR)) (show Below w1.heap.size w1 w1.drew from below_drewN _ w1 1)
  have hP := hBd.step (Does.one (commit_does bd bc base half D M hkt hf hws hnum) (Pair2.good (Pair2.good (QO.good _ _) (XelO.good _ _ _ _ _)) gR))
  have d1 : w1.drew.cell? ⟨ba, 1, none⟩ = some (.pointer (some ⟨bc, 0, none⟩)) := c1
  have d3 : w1.drew.cell? ⟨ba, 3, none⟩ = some (.pointer (some ⟨bq, 0, none⟩)) := c3
  have p1 : w1.drew.cell? ⟨bo, 1, none⟩ = some (.string s) := co 1
  have p2 : w1.drew.cell? ⟨bo, 2, none⟩ = some (.string t) := co 2
  have hX := fun w2 (h : Kept wb _ w2) => h.step (Does.twoR gR (bw := bw) (bq := bq) (wb := wb) (ba := ba) (bo := bo) (bd := bd) (bc := bc) (co := opC k s t n v) (xcommit_does bw bq base half D M hin hkt hf hws hnum) (Pair2.good (DevO.good bd ((commitD base half D M))) (CelO.good bd bc base half ((commitC base half D M)))))
  obtain ⟨y1, hy1⟩ : ∃ y1, commitE base half D M = y1 := ⟨_, rfl⟩
  rw [hy1] at hP hX
  replace hP := Box.mk hP
  replace hX := Box.mk hX
  replace hy1 := Box.mk hy1
  clear hB hBd hK co hk
  go_enter Tryz.func8, Tryz.ntmps8
  go_wp2_with fail
  refine region_go (C := fun w' => w'.cell? ⟨ba, 1, none⟩ = some (.pointer (some ⟨bc, 0, none⟩)) ∧ w'.cell? ⟨ba, 3, none⟩ = some (.pointer (some ⟨bq, 0, none⟩)) ∧ w'.cell? ⟨bo, 1, none⟩ = some (.string s) ∧ w'.cell? ⟨bo, 2, none⟩ = some (.string t)) rfl ?_
  refine go_calms [0, 1, 2, 3, 5, 6, 7, 8] 4 rfl (by kernel_rfl) (by kernel_rfl) (by kernel_rfl) ⟨d1, d3, p1, p2⟩ ?_
  simp [nth]
  try simp only [Act.put]
  repeat (go_big_quiet_step (first | exact fun _ => rfl | rfl))
  refine quiet_any rfl (.pointer (some ⟨ba, 0, none⟩)) (fun w' hw' => by go_simp) ?_
  simp only [Act.put, List.setIfInBounds_toArray, List.set_cons_succ, List.set_cons_zero]
  refine quiet_any rfl (.pointer (some ⟨ba, 1, none⟩)) (fun w' hw' => by go_simp) ?_
  simp only [Act.put, List.setIfInBounds_toArray, List.set_cons_succ, List.set_cons_zero]
  refine quiet_any rfl (.pointer (some ⟨bc, 0, none⟩)) (fun w' hw' => by have h := hw'.1; go_simp) ?_
  simp only [Act.put, List.setIfInBounds_toArray, List.set_cons_succ, List.set_cons_zero]
  repeat (go_big_quiet_step (first | exact fun _ => rfl | rfl))
  refine quiet_any rfl (.pointer (some ⟨ba, 0, none⟩)) (fun w' hw' => by go_simp) ?_
  simp only [Act.put, List.setIfInBounds_toArray, List.set_cons_succ, List.set_cons_zero]
  refine quiet_any rfl (.pointer (some ⟨ba, 3, none⟩)) (fun w' hw' => by go_simp) ?_
  simp only [Act.put, List.setIfInBounds_toArray, List.set_cons_succ, List.set_cons_zero]
  refine quiet_any rfl (.pointer (some ⟨bq, 0, none⟩)) (fun w' hw' => by have h := hw'.2.1; go_simp) ?_
  simp only [Act.put, List.setIfInBounds_toArray, List.set_cons_succ, List.set_cons_zero]
  refine wpQuiet_nil ?_
  refine go_forced 4 (by kernel_rfl) (goOp_wp 4 rfl rfl (fun K hK => ?_))
  go_simp
  refine hP.out.mono ?_
  rintro e w2 ⟨rfl, hk2⟩
  obtain ⟨e1, e3, eo⟩ := hk2.out.world
  refine hK _ _ ⟨e1, e3, eo 1, eo 2⟩ ?_
  clear hK K hP e1 e3 eo
  have hF := Box.mk (hX.out w2 hk2.out)
  refine go_forced 9 (by kernel_rfl) (goOp_wp 9 rfl rfl (fun K hK => ?_))
  go_simp
  refine hF.out.mono ?_
  rintro e w3 ⟨rfl, hk3⟩
  obtain ⟨e1, e3, eo⟩ := hk3.out.world
  have hC3 : w3.cell? ⟨ba, 1, none⟩ = some (.pointer (some ⟨bc, 0, none⟩)) ∧ w3.cell? ⟨ba, 3, none⟩ = some (.pointer (some ⟨bq, 0, none⟩)) ∧ w3.cell? ⟨bo, 1, none⟩ = some (.string s) ∧ w3.cell? ⟨bo, 2, none⟩ = some (.string t) := ⟨e1, e3, eo 1, eo 2⟩
  refine hK _ _ hC3 ?_
  clear hK K hF e1 e3 eo
  refine go_calms [10, 11] 0 rfl (by kernel_rfl) (by kernel_rfl) (by kernel_rfl) hC3 ?_
  simp [nth]
  try simp only [Act.put]
  refine quiet_any rfl (.bool true) (fun w' hw' => by go_simp) ?_
  simp only [Act.put, List.setIfInBounds_toArray, List.set_cons_succ, List.set_cons_zero]
  repeat (go_big_quiet_step (first | exact fun _ => rfl | rfl))
  refine wpQuiet_nil ?_
  refine go_done (by kernel_rfl) ?_
  have hfin := Box.mk (hk3.out.conv fun F h => Pair2.drop h)
  clear hk3 hk2 hX
  go_simp
  go_wp2_with fail
  go_returns
  exact ⟨rfl, hfin⟩
set_option maxHeartbeats 3200000 in
set_option maxRecDepth 100000 in
theorem stepR_undo (gR : Good R) (hK : Kept wb (AllR R ba bd bc bw bq base half D M) w) (hk : k.toNat % 10 = 4) (x y : Int) :
    Calls Tryz.prog 8 #[.pointer (some ⟨ba, 0, none⟩), .agg #[.int .u8 (k.toNat : Int), .string s, .string t, .int .i64 n, v], .int .i64 x, .int .i64 y] w fun e w' => e = .returned (.bool true) ∧ Box (Kept wb (AllR R ba bd bc bw bq base half D { M with now := M.was }) w') := by
  have hB := Kept.boxR gR hK (opC k s t n v)
  obtain ⟨bo, hbo⟩ : ∃ bo, w.heap.size = bo := ⟨_, rfl⟩
  obtain ⟨w1, hw1⟩ : ∃ w1, w.alloc (.cells #[.int .u8 (k.toNat : Int), .string s, .string t, .int .i64 n, v] 31) = w1 := ⟨_, rfl⟩
  rw [show w.alloc (.cells (opC k s t n v).toArray 31) = w1 from hw1, hbo] at hB
  obtain ⟨c1, c3, co⟩ := hB.world
  have o0 : w1.cell? ⟨bo, 0, none⟩ = some (.int .u8 (k.toNat : Int)) := co 0
  have hki : (k.toNat : Int) % 10 = 4 := by omega
  have hP := (show Kept wb (AllPR R ba bo bd bc bw bq base half (opC k s t n v) D M) w1 from hB).step (Does.one ((undo_does bd bc base half M).right (DevO.good _ _)) (Pair2.good (Pair2.good (QO.good _ _) (XelO.good _ _ _ _ _)) gR))
  have hX := fun w2 (h : Kept wb _ w2) => h.step (Does.twoR gR (bw := bw) (bq := bq) (wb := wb) (ba := ba) (bo := bo) (bd := bd) (bc := bc) (co := opC k s t n v) ((xundo_does bw bq base half M).right (QO.good bw D)) (Pair2.good (DevO.good bd D) (CelO.good bd bc base half { M with now := M.was })))
  replace hP := Box.mk hP
  replace hX := Box.mk hX
  clear hB hK co hk
  go_enter Tryz.func8, Tryz.ntmps8
  go_wp2_with fail
  refine hP.out.mono ?_
  rintro e w2 ⟨rfl, hk2⟩
  obtain ⟨e1, e3, eo⟩ := hk2.out.world
  have hF := Box.mk (hX.out w2 hk2.out)
  clear hP hX c1 c3 o0 e1 eo
  go_wp2_with fail
  refine hF.out.mono ?_
  rintro e w3 ⟨rfl, hk3⟩
  have hfin := Box.mk (hk3.out.conv fun F h => Pair2.drop h)
  clear hF hk2 hk3 e3
  go_wp2_with fail
  go_returns
  exact ⟨rfl, hfin⟩
end
theorem stepR_all {R : Obj} (gR : Good R) {wb w : World} {ba bd bc bw bq base half n i : Nat} {D : Dev} {M : CellM} {k : UInt8} {s t : ByteArray} {m : Int} {v : Value} (hK : Kept wb (AllR R ba bd bc bw bq base half D M) w) (h : WS base half n i D M) (hin : base + 2 * half ≤ n) (hi : i ≤ 100) (hk : k.toNat % 10 < 7) (hs : s.size ≤ maxLen) (ht : t.size ≤ maxLen) (x y : Int) :
    Calls Tryz.prog 8 #[.pointer (some ⟨ba, 0, none⟩), .agg #[.int .u8 (k.toNat : Int), .string s, .string t, .int .i64 m, v], .int .i64 x, .int .i64 y] w fun e w' => e = .returned (.bool true) ∧ Box (Kept wb (AllR R ba bd bc bw bq base half (stD base half D (k.toNat % 10) M) (stC base half D (k.toNat % 10) s.data.toList t.data.toList M)) w') := by
  have ht' := h.t
  have hn' := h.num
  have hws : D.ws.length ≤ 100000 := by rw [h.snd.calm.ws]; exact Nat.zero_le _
  have hlen := h.len
  have hf := h.f
  rcases (show k.toNat % 10 < 3 ∨ k.toNat % 10 = 3 ∨ k.toNat % 10 = 4 ∨ k.toNat % 10 = 5 ∨ k.toNat % 10 = 6 by omega) with h0 | h0 | h0 | h0 | h0
  · have e1 : stD base half D (k.toNat % 10) M = D := by unfold stD; rw [if_neg (by omega)]
    have e2 : stC base half D (k.toNat % 10) s.data.toList t.data.toList M = { M with now := putM M.now s.data.toList t.data.toList } := by unfold stC; rw [if_neg (by omega), if_neg (by omega), if_neg (by omega)]
    rw [e1, e2]; exact stepR_put gR hK h0 hs ht x y
  · have e1 : stD base half D (k.toNat % 10) M = D := by unfold stD; rw [if_neg (by omega)]
    have e2 : stC base half D (k.toNat % 10) s.data.toList t.data.toList M = { M with now := dropC M.now s.data.toList } := by unfold stC; rw [if_pos h0]
    rw [e1, e2]; exact stepR_drop gR hK h0 hs x y
  · have e1 : stD base half D (k.toNat % 10) M = D := by unfold stD; rw [if_neg (by omega)]
    have e2 : stC base half D (k.toNat % 10) s.data.toList t.data.toList M = { M with now := M.was } := by unfold stC; rw [if_neg (by omega), if_pos h0]
    rw [e1, e2]; exact stepR_undo gR hK h0 x y
  · have e1 : stD base half D (k.toNat % 10) M = commitD base half D M := by unfold stD; rw [if_pos (.inl h0)]
    have e2 : stC base half D (k.toNat % 10) s.data.toList t.data.toList M = commitC base half D M := by unfold stC; rw [if_neg (by omega), if_neg (by omega), if_pos (.inl h0)]
    rw [e1, e2]; exact stepR_commit5 gR hK h0 (by omega) (by omega) (by omega) hws (by omega) x y
  · have e1 : stD base half D (k.toNat % 10) M = commitD base half D M := by unfold stD; rw [if_pos (.inr h0)]
    have e2 : stC base half D (k.toNat % 10) s.data.toList t.data.toList M = commitC base half D M := by unfold stC; rw [if_neg (by omega), if_neg (by omega), if_pos (.inr h0)]
    rw [e1, e2]; exact stepR_commit6 gR hK h0 (by omega) (by omega) (by omega) hws (by omega) x y
end Go.Proofs.YtoaipjpbioaneaaGreat

namespace Go.Proofs.YtoaipjpbioaneaaGreat
open Go.RowKit Go.Maps

/-- Two cells on devices, beside anything. -/
def AlkO (bd bc base half bd2 b2 base2 half2 : Nat) (D : Dev) (M M2 : CellM) (R : Obj) : Obj := Pair2 (Pair2 (DevO bd D) (CelO bd bc base half M)) (Pair2 (CelO bd2 b2 base2 half2 M2) R)
section
variable {wb w : World} {bd bc base half bd2 b2 base2 half2 : Nat} {D : Dev} {M M2 : CellM} {R : Obj} {s t : ByteArray} {L : Ct}
theorem AlkO.good (g : Good R) : Good (AlkO bd bc base half bd2 b2 base2 half2 D M M2 R) := Pair2.good (Pair2.good (DevO.good _ _) (CelO.good _ _ _ _ _)) (Pair2.good (CelO.good _ _ _ _ _) g)
theorem Kept.alkC (h : Kept wb (AlkO bd bc base half bd2 b2 base2 half2 D M M2 R) w) : ∃ G, CelO bd bc base half M w G := by
  obtain ⟨F, ⟨_, _, ⟨_, G, _, h1, _⟩, _⟩, _⟩ := h
  exact ⟨G, h1⟩
theorem Kept.alkO (h : Kept wb (AlkO bd bc base half bd2 b2 base2 half2 D M M2 R) w) : ∃ G, CelO bd2 b2 base2 half2 M2 w G := by
  obtain ⟨F, ⟨_, _, _, ⟨G, _, h1, _⟩, _⟩, _⟩ := h
  exact ⟨G, h1⟩
theorem rowBelow {w w' : World} {e : TypeId} {size : Nat} {v : Value} {n : Nat} {xs : List Value} (h : Row w e size v n xs) (hb : Below w.heap.size w w') : Row w' e size v n xs := h.chg (Chg.of_below hb) fun k hk hk2 => by
  have h1 := (World.ownsRow.lt h k hk).2
  have h2 : w.heap.size ≤ k := hk2
  omega
theorem alk_names1 (g : Good R) (hL : M.now = L) (h : Kept wb (AlkO bd bc base half bd2 b2 base2 half2 D M M2 R) w) :
    Calls Tryz.prog 43 #[.pointer (some ⟨bc, 0, none⟩)] w fun e w' => ∃ a c, e = .returned (.slice a L.length c) ∧ Box (Row w' 9 1 (.slice a L.length c) L.length (L.map nameV) ∧ Below w.heap.size w w' ∧ Kept wb (AlkO bd bc base half bd2 b2 base2 half2 D M M2 R) w') := by
  subst hL
  obtain ⟨G, hC⟩ := h.alkC
  obtain ⟨bn, p, hb, hM, _⟩ := hC.out
  refine (names_of bc bn _ M.now w hb hM hC.ok.now.rise (by have := hC.ok.now.n; omega)).mono fun e w' ⟨v, he, hr, _, hB⟩ => ?_
  obtain ⟨a, c, rfl⟩ := Row.shape hr
  exact ⟨a, c, he, ⟨hr, hB, h.below (AlkO.good g) hB⟩⟩
theorem alk_names2 (g : Good R) (hL : M2.now = L) (h : Kept wb (AlkO bd bc base half bd2 b2 base2 half2 D M M2 R) w) :
    Calls Tryz.prog 43 #[.pointer (some ⟨b2, 0, none⟩)] w fun e w' => ∃ a c, e = .returned (.slice a L.length c) ∧ Box (Row w' 9 1 (.slice a L.length c) L.length (L.map nameV) ∧ Below w.heap.size w w' ∧ Kept wb (AlkO bd bc base half bd2 b2 base2 half2 D M M2 R) w') := by
  subst hL
  obtain ⟨G, hC⟩ := h.alkO
  obtain ⟨bn, p, hb, hM, _⟩ := hC.out
  refine (names_of b2 bn _ M2.now w hb hM hC.ok.now.rise (by have := hC.ok.now.n; omega)).mono fun e w' ⟨v, he, hr, _, hB⟩ => ?_
  obtain ⟨a, c, rfl⟩ := Row.shape hr
  exact ⟨a, c, he, ⟨hr, hB, h.below (AlkO.good g) hB⟩⟩
theorem alk_num1 (h : Kept wb (AlkO bd bc base half bd2 b2 base2 half2 D M M2 R) w) :
    Calls Tryz.prog 9 #[.pointer (some ⟨bc, 0, none⟩)] w fun e w' => e = .returned (.int .i64 (M.num : Int)) ∧ w = w' := by
  obtain ⟨G, hC⟩ := h.alkC
  obtain ⟨bn, p, hb, _⟩ := hC.out
  exact num_any bc _ _ M.num _ w hb
theorem alk_num2 (h : Kept wb (AlkO bd bc base half bd2 b2 base2 half2 D M M2 R) w) :
    Calls Tryz.prog 9 #[.pointer (some ⟨b2, 0, none⟩)] w fun e w' => e = .returned (.int .i64 (M2.num : Int)) ∧ w = w' := by
  obtain ⟨G, hC⟩ := h.alkO
  obtain ⟨bn, p, hb, _⟩ := hC.out
  exact num_any b2 _ _ M2.num _ w hb
theorem alk_get1 (g : Good R) (hL : M.now = L) (h : Kept wb (AlkO bd bc base half bd2 b2 base2 half2 D M M2 R) w) (x : ByteArray) (hx : x.size ≤ maxLen) :
    Calls Tryz.prog 19 #[.pointer (some ⟨bc, 0, none⟩), .string x] w fun e w' => e = .returned (getV L x.data.toList) ∧ Box (Below w.heap.size w w' ∧ Kept wb (AlkO bd bc base half bd2 b2 base2 half2 D M M2 R) w') := by
  subst hL
  obtain ⟨G, hC⟩ := h.alkC
  obtain ⟨bn, p, hb, hM, _⟩ := hC.out
  exact (get_any bc bn _ M.now x w hb hM hx).mono fun e w' ⟨he, hB⟩ => ⟨he, ⟨hB, h.below (AlkO.good g) hB⟩⟩
theorem alk_get2 (g : Good R) (hL : M2.now = L) (h : Kept wb (AlkO bd bc base half bd2 b2 base2 half2 D M M2 R) w) (x : ByteArray) (hx : x.size ≤ maxLen) :
    Calls Tryz.prog 19 #[.pointer (some ⟨b2, 0, none⟩), .string x] w fun e w' => e = .returned (getV L x.data.toList) ∧ Box (Below w.heap.size w w' ∧ Kept wb (AlkO bd bc base half bd2 b2 base2 half2 D M M2 R) w') := by
  subst hL
  obtain ⟨G, hC⟩ := h.alkO
  obtain ⟨bn, p, hb, hM, _⟩ := hC.out
  exact (get_any b2 bn _ M2.now x w hb hM hx).mono fun e w' ⟨he, hB⟩ => ⟨he, ⟨hB, h.below (AlkO.good g) hB⟩⟩
theorem alk_put (g : Good R) (h : Kept wb (AlkO bd bc base half bd2 b2 base2 half2 D M M2 R) w) (hs : s.size ≤ maxLen) (ht : t.size ≤ maxLen) :
    Calls Tryz.prog 17 #[.pointer (some ⟨bc, 0, none⟩), .string s, .string t] w fun e w' => e = .returned (.int .i64 (putE M.now s.data.toList t.data.toList)) ∧ Box (Kept wb (AlkO bd bc base half bd2 b2 base2 half2 D { M with now := putM M.now s.data.toList t.data.toList } M2 R) w') :=
  h.step (((put_does bd bc base half M s t hs ht).in_.ret' (DevO.good _ _)).ret (Pair2.good (CelO.good _ _ _ _ _) g))
theorem alk_drop (g : Good R) (h : Kept wb (AlkO bd bc base half bd2 b2 base2 half2 D M M2 R) w) (hs : s.size ≤ maxLen) :
    Calls Tryz.prog 26 #[.pointer (some ⟨bc, 0, none⟩), .string s] w fun e w' => e = .returned (.bool (getC M.now s.data.toList).isSome) ∧ Box (Kept wb (AlkO bd bc base half bd2 b2 base2 half2 D { M with now := dropC M.now s.data.toList } M2 R) w') :=
  h.step (((drop_does bd bc base half M s hs).in_.ret' (DevO.good _ _)).ret (Pair2.good (CelO.good _ _ _ _ _) g))
theorem alk_undo (g : Good R) (h : Kept wb (AlkO bd bc base half bd2 b2 base2 half2 D M M2 R) w) :
    Calls Tryz.prog 28 #[.pointer (some ⟨bc, 0, none⟩)] w fun e w' => e = .returned (.tuple #[]) ∧ Box (Kept wb (AlkO bd bc base half bd2 b2 base2 half2 D { M with now := M.was } M2 R) w') :=
  h.step (((undo_does bd bc base half M).in_.ret' (DevO.good _ _)).ret (Pair2.good (CelO.good _ _ _ _ _) g))
theorem alk_commit (g : Good R) (h : Kept wb (AlkO bd bc base half bd2 b2 base2 half2 D M M2 R) w) (ht : D.taken ≤ 100000) (hf : D.fall ≤ 9223372036854775807) (hw : D.ws.length ≤ 100000) (hn : M.num < 1000000) :
    Calls Tryz.prog 11 #[.pointer (some ⟨bc, 0, none⟩)] w fun e w' => e = .returned (.int .i64 (commitE base half D M)) ∧ Box (Kept wb (AlkO bd bc base half bd2 b2 base2 half2 (commitD base half D M) (commitC base half D M) M2 R) w') :=
  h.step ((commit_does bd bc base half D M ht hf hw hn).in_.ret (Pair2.good (CelO.good _ _ _ _ _) g))
end
end Go.Proofs.YtoaipjpbioaneaaGreat

namespace Go.Proofs.YtoaipjpbioaneaaGreat
open Go.RowKit Go.Maps
section
variable {wb w : World} {bd bc base half bd2 b2 base2 half2 : Nat} {D : Dev} {M M2 : CellM} {R : Obj} {k : UInt8} {s t : ByteArray} {n : Int} {v : Value}
set_option maxHeartbeats 6400000 in
set_option maxRecDepth 100000 in
theorem alike_put (g : Good R) (h : Kept wb (AlkO bd bc base half bd2 b2 base2 half2 D M M2 R) w) (hk : k.toNat % 10 < 3) (hs : s.size ≤ maxLen) (ht : t.size ≤ maxLen) (he : ({ M with now := putM M.now s.data.toList t.data.toList }).now = M2.now) (hm : ({ M with now := putM M.now s.data.toList t.data.toList }).num = M2.num) :
    Calls Tryz.prog 15 #[.pointer (some ⟨bc, 0, none⟩), .agg #[.int .u8 (k.toNat : Int), .string s, .string t, .int .i64 n, v], .pointer (some ⟨b2, 0, none⟩)] w fun e w' => e = .returned (.bool true) ∧ Box (Kept wb (AlkO bd bc base half bd2 b2 base2 half2 (D) ({ M with now := putM M.now s.data.toList t.data.toList }) M2 R) w') := by
  obtain ⟨bo, hbo⟩ : ∃ bo, w.heap.size = bo := ⟨_, rfl⟩
  obtain ⟨w1, hw1⟩ : ∃ w1, w.alloc (.cells #[.int .u8 (k.toNat : Int), .string s, .string t, .int .i64 n, v] 31) = w1 := ⟨_, rfl⟩
  have hb1 := Blk.new w (opC k s t n v) 31
  rw [show w.alloc (.cells (opC k s t n v).toArray 31) = w1 from hw1, hbo] at hb1
  have o0 : w1.cell? ⟨bo, 0, none⟩ = some (.int .u8 (k.toNat : Int)) := hb1.cell 0
  have o1 : w1.cell? ⟨bo, 1, none⟩ = some (.string s) := hb1.cell 1
  have o2 : w1.cell? ⟨bo, 2, none⟩ = some (.string t) := hb1.cell 2
  have hK1 := h.below (AlkO.good g) (hw1 ▸ (Below.refl _ _).alloc (Nat.le_refl _) _ : Below w.heap.size w w1)
  have hU := Box.mk (alk_put g hK1 hs ht)
  obtain ⟨kk, hkk⟩ : ∃ kk : Nat, k.toNat % 10 = kk := ⟨_, rfl⟩
  rw [hkk] at hk
  have hki : (k.toNat : Int) % 10 = (kk : Int) := by omega
  have hk3 : ((kk : Int) == 3) = false := by simp; omega
  have hk4 : ((kk : Int) == 4) = false := by simp; omega
  have hk5 : ((kk : Int) == 5) = false := by simp; omega
  have hk6 : ((kk : Int) == 6) = false := by simp; omega
  clear hkk hs ht
  obtain ⟨M1, hM1⟩ : ∃ M1, { M with now := putM M.now s.data.toList t.data.toList } = M1 := ⟨_, rfl⟩
  obtain ⟨D1, hD1⟩ : ∃ D1, D = D1 := ⟨_, rfl⟩
  rw [hM1] at hU he hm ⊢
  try rw [hD1] at hU ⊢
  obtain ⟨L, hL2⟩ : ∃ L, M2.now = L := ⟨_, rfl⟩
  obtain ⟨q, hq2⟩ : ∃ q, M2.num = q := ⟨_, rfl⟩
  rw [hL2] at he
  rw [hq2] at hm
  have hLok : Box L.ok := ⟨by
    obtain ⟨G, hG⟩ := hK1.alkO
    rw [← hL2]; exact hG.ok.now⟩
  replace he := Box.mk he
  replace hm := Box.mk hm
  replace hL2 := Box.mk hL2
  replace hq2 := Box.mk hq2
  clear hM1 hD1 hK1 h hb1 hk
  go_enter Tryz.func15, Tryz.ntmps15
  go_wp2_with fail
  refine hU.out.mono ?_
  rintro e w2 ⟨rfl, hk2⟩
  have hN1 := Box.mk (alk_names1 g he.out hk2.out)
  clear hU hk2 hw1 o0 o1 o2
  go_wp2_with fail
  refine hN1.out.mono ?_
  rintro e w3 ⟨a3, c3, rfl, h3⟩
  have hN2 := Box.mk (alk_names2 g hL2.out h3.out.2.2)
  clear hN1
  go_wp2_with fail
  refine hN2.out.mono ?_
  rintro e w4 ⟨a4, c4, rfl, h4⟩
  obtain ⟨N, hN⟩ : ∃ N, L.length = N := ⟨_, rfl⟩
  have hI4 : Box (Kept wb (AlkO bd bc base half bd2 b2 base2 half2 D1 M1 M2 R) w4 ∧ Row w4 9 1 (.slice a3 N c3) N (L.map nameV) ∧ Row w4 9 1 (.slice a4 N c4) N (L.map nameV)) := by
    have hr3 := rowBelow h3.out.1 h4.out.2.1
    have hr4 := h4.out.1
    rw [hN] at hr3 hr4
    exact ⟨h4.out.2.2, hr3, hr4⟩
  rw [hN]
  have hN64 : N ≤ 64 := by have := hLok.out.n; omega
  replace hN := Box.mk hN
  have hu1 : Box (Calls Tryz.prog 9 #[.pointer (some ⟨bc, 0, none⟩)] w4 fun e w' => e = .returned (.int .i64 (q : Int)) ∧ w4 = w') := ⟨by have := alk_num1 hI4.out.1; rwa [hm.out] at this⟩
  have hu2 : Box (Calls Tryz.prog 9 #[.pointer (some ⟨b2, 0, none⟩)] w4 fun e w' => e = .returned (.int .i64 (q : Int)) ∧ w4 = w') := ⟨by have := alk_num2 hI4.out.1; rwa [hq2.out] at this⟩
  clear hN2 h3 h4
  go_wp2_with fail
  refine hu1.out.mono ?_
  rintro e w5 ⟨rfl, rfl⟩
  clear hu1
  go_wp2_with fail
  refine hu2.out.mono ?_
  rintro e w5 ⟨rfl, rfl⟩
  clear hu2
  go_wp2_with fail
  go_loopw [56] (fun q wr => ∃ i : Nat, i ≤ N ∧ q = .int .i64 (i : Int) ∧ Box (Kept wb (AlkO bd bc base half bd2 b2 base2 half2 D1 M1 M2 R) wr ∧ Row wr 9 1 (.slice a3 N c3) N (L.map nameV) ∧ Row wr 9 1 (.slice a4 N c4) N (L.map nameV))) (fun q _ => N - (intOf q).toNat)
  case atStart => exact ⟨0, by omega, rfl, hI4⟩
  case round =>
    clear hI4
    obtain ⟨i, hi, rfl, hI⟩ := hrel
    by_cases hil : i < N
    · have hiL : i < L.length := by rw [hN.out]; exact hil
      obtain ⟨g3, c3', e3, hg3⟩ := hI.out.2.1.some (by omega)
      cases e3
      obtain ⟨g4, c4', e4, hg4⟩ := hI.out.2.2.some (by omega)
      cases e4
      have hnm : (L.map nameV)[i]? = some (.string (btx (L[i]).1)) := by rw [List.getElem?_map, List.getElem?_eq_getElem hiL]; rfl
      have k3 := hI.out.2.1.cells i _ hnm
      have k4 := hI.out.2.2.cells i _ hnm
      have hsz : (btx (L[i]).1).size ≤ maxLen := by
        rw [mk_size]
        have := (hLok.out.each (L[i]) (List.getElem_mem hiL))
        unfold maxLen
        omega
      obtain ⟨x, hx⟩ : ∃ x, btx (L[i]).1 = x := ⟨_, rfl⟩
      rw [hx] at k3 k4 hsz hnm
      obtain ⟨xx, yy, hxy⟩ : ∃ xx yy, getV L x.data.toList = .tuple #[.string xx, .bool yy] := ⟨_, _, rfl⟩
      have hG := alk_get1 g he.out hI.out.1 x hsz
      have hG2 := fun V (hV : Kept wb (AlkO bd bc base half bd2 b2 base2 half2 D1 M1 M2 R) V) => alk_get2 g hL2.out hV x hsz
      rw [hxy] at hG
      simp only [hxy] at hG2
      replace hG := Box.mk hG
      replace hG2 := Box.mk hG2
      replace hnm := Box.mk hnm
      replace hxy := Box.mk hxy
      clear hsz
      go_wp2_with fail
      refine hG.out.mono ?_
      rintro e w6 ⟨rfl, h6⟩
      have hr3 := rowBelow hI.out.2.1 h6.out.1
      have hr4 := rowBelow hI.out.2.2 h6.out.1
      have hF := Box.mk (hG2.out w6 h6.out.2)
      have m4 := hr4.cells i _ hnm.out
      have hr34 := Box.mk (And.intro hr3 hr4)
      clear k3 k4 hG hG2 hr3 hr4 h6 hI
      go_wp2_with fail
      refine hF.out.mono ?_
      rintro e w7 ⟨rfl, h7⟩
      have hI7 : Box (Kept wb (AlkO bd bc base half bd2 b2 base2 half2 D1 M1 M2 R) w7 ∧ Row w7 9 1 (.slice (some ⟨g3, 0, none⟩) N c3) N (L.map nameV) ∧ Row w7 9 1 (.slice (some ⟨g4, 0, none⟩) N c4) N (L.map nameV)) := ⟨h7.out.2, rowBelow hr34.out.1 h7.out.1, rowBelow hr34.out.2 h7.out.1⟩
      have p3 := hI7.out.2.1.cells i _ hnm.out
      have p4 := hI7.out.2.2.cells i _ hnm.out
      clear hF m4 h7 hr34
      go_wp2_with fail
      refine region_go (C := fun w' => w'.cell? ⟨g3, i, none⟩ = some (.string x) ∧ w'.cell? ⟨g4, i, none⟩ = some (.string x)) rfl ?_
      have hC7 : w7.drew.cell? ⟨g3, i, none⟩ = some (.string x) ∧ w7.drew.cell? ⟨g4, i, none⟩ = some (.string x) := ⟨p3, p4⟩
      have hI8 : Box (Kept wb (AlkO bd bc base half bd2 b2 base2 half2 D1 M1 M2 R) w7.drew ∧ Row w7.drew 9 1 (.slice (some ⟨g3, 0, none⟩) N c3) N (L.map nameV) ∧ Row w7.drew 9 1 (.slice (some ⟨g4, 0, none⟩) N c4) N (L.map nameV)) := ⟨hI7.out.1.below (AlkO.good g) (below_drew' _ w7), rowBelow hI7.out.2.1 (below_drew' _ w7), rowBelow hI7.out.2.2 (below_drew' _ w7)⟩
      generalize w7.drew = w8 at hC7 hI8 ⊢
      refine go_calms [0, 1, 2, 3, 4, 5, 6, 7, 8, 9, 10, 11, 12, 13] 0 rfl (by kernel_rfl) (by kernel_rfl) (by kernel_rfl) hC7 ?_
      simp [nth]
      try simp only [Act.put]
      repeat (go_big_quiet_step (first | exact fun _ => rfl | rfl))
      refine quiet_any rfl (.pointer (some ⟨g3, i, none⟩)) (fun w' hw' => by
        have h1 := hw'.1
        have h2 := hw'.2
        go_simp) ?_
      simp only [Act.put, List.setIfInBounds_toArray, List.set_cons_succ, List.set_cons_zero]
      refine quiet_any rfl (.string x) (fun w' hw' => by
        have h1 := hw'.1
        have h2 := hw'.2
        go_simp) ?_
      simp only [Act.put, List.setIfInBounds_toArray, List.set_cons_succ, List.set_cons_zero]
      repeat (go_big_quiet_step (first | exact fun _ => rfl | rfl))
      refine quiet_any rfl (.pointer (some ⟨g4, i, none⟩)) (fun w' hw' => by
        have h1 := hw'.1
        have h2 := hw'.2
        go_simp) ?_
      simp only [Act.put, List.setIfInBounds_toArray, List.set_cons_succ, List.set_cons_zero]
      refine quiet_any rfl (.string x) (fun w' hw' => by
        have h1 := hw'.1
        have h2 := hw'.2
        go_simp) ?_
      simp only [Act.put, List.setIfInBounds_toArray, List.set_cons_succ, List.set_cons_zero]
      refine quiet_any rfl (.bool false) (fun w' hw' => by
        have h1 := hw'.1
        have h2 := hw'.2
        go_simp) ?_
      simp only [Act.put, List.setIfInBounds_toArray, List.set_cons_succ, List.set_cons_zero]
      repeat (go_big_quiet_step (first | exact fun _ => rfl | rfl))
      refine quiet_any rfl (.bool false) (fun w' hw' => by
        have h1 := hw'.1
        have h2 := hw'.2
        go_simp) ?_
      simp only [Act.put, List.setIfInBounds_toArray, List.set_cons_succ, List.set_cons_zero]
      refine quiet_any rfl (.bool false) (fun w' hw' => by
        have h1 := hw'.1
        have h2 := hw'.2
        go_simp) ?_
      simp only [Act.put, List.setIfInBounds_toArray, List.set_cons_succ, List.set_cons_zero]
      repeat (go_big_quiet_step (first | exact fun _ => rfl | rfl))
      refine wpQuiet_nil ?_
      refine go_done (by kernel_rfl) ?_
      clear hC7 hI7 p3 p4
      go_wp2_with fail
      exact ⟨⟨i + 1, by omega, by go_num, hI8⟩, by simp [intOf]; omega⟩
    · obtain rfl : i = N := by omega
      have hfin := Box.mk hI.out.1
      clear hI
      go_wp2_with fail
      go_returns
      exact ⟨rfl, hfin⟩
set_option maxHeartbeats 6400000 in
set_option maxRecDepth 100000 in
theorem alike_drop (g : Good R) (h : Kept wb (AlkO bd bc base half bd2 b2 base2 half2 D M M2 R) w) (hk : k.toNat % 10 = 3) (hs : s.size ≤ maxLen) (he : ({ M with now := dropC M.now s.data.toList }).now = M2.now) (hm : ({ M with now := dropC M.now s.data.toList }).num = M2.num) :
    Calls Tryz.prog 15 #[.pointer (some ⟨bc, 0, none⟩), .agg #[.int .u8 (k.toNat : Int), .string s, .string t, .int .i64 n, v], .pointer (some ⟨b2, 0, none⟩)] w fun e w' => e = .returned (.bool true) ∧ Box (Kept wb (AlkO bd bc base half bd2 b2 base2 half2 (D) ({ M with now := dropC M.now s.data.toList }) M2 R) w') := by
  obtain ⟨bo, hbo⟩ : ∃ bo, w.heap.size = bo := ⟨_, rfl⟩
  obtain ⟨w1, hw1⟩ : ∃ w1, w.alloc (.cells #[.int .u8 (k.toNat : Int), .string s, .string t, .int .i64 n, v] 31) = w1 := ⟨_, rfl⟩
  have hb1 := Blk.new w (opC k s t n v) 31
  rw [show w.alloc (.cells (opC k s t n v).toArray 31) = w1 from hw1, hbo] at hb1
  have o0 : w1.cell? ⟨bo, 0, none⟩ = some (.int .u8 (k.toNat : Int)) := hb1.cell 0
  have o1 : w1.cell? ⟨bo, 1, none⟩ = some (.string s) := hb1.cell 1
  have hK1 := h.below (AlkO.good g) (hw1 ▸ (Below.refl _ _).alloc (Nat.le_refl _) _ : Below w.heap.size w w1)
  have hU := Box.mk (alk_drop g hK1 hs)
  have hki : (k.toNat : Int) % 10 = 3 := by omega
  clear hs
  obtain ⟨M1, hM1⟩ : ∃ M1, { M with now := dropC M.now s.data.toList } = M1 := ⟨_, rfl⟩
  obtain ⟨D1, hD1⟩ : ∃ D1, D = D1 := ⟨_, rfl⟩
  rw [hM1] at hU he hm ⊢
  try rw [hD1] at hU ⊢
  obtain ⟨L, hL2⟩ : ∃ L, M2.now = L := ⟨_, rfl⟩
  obtain ⟨q, hq2⟩ : ∃ q, M2.num = q := ⟨_, rfl⟩
  rw [hL2] at he
  rw [hq2] at hm
  have hLok : Box L.ok := ⟨by
    obtain ⟨G, hG⟩ := hK1.alkO
    rw [← hL2]; exact hG.ok.now⟩
  replace he := Box.mk he
  replace hm := Box.mk hm
  replace hL2 := Box.mk hL2
  replace hq2 := Box.mk hq2
  clear hM1 hD1 hK1 h hb1 hk
  go_enter Tryz.func15, Tryz.ntmps15
  go_wp2_with fail
  refine hU.out.mono ?_
  rintro e w2 ⟨rfl, hk2⟩
  have hN1 := Box.mk (alk_names1 g he.out hk2.out)
  clear hU hk2 hw1 o0 o1
  go_wp2_with fail
  refine hN1.out.mono ?_
  rintro e w3 ⟨a3, c3, rfl, h3⟩
  have hN2 := Box.mk (alk_names2 g hL2.out h3.out.2.2)
  clear hN1
  go_wp2_with fail
  refine hN2.out.mono ?_
  rintro e w4 ⟨a4, c4, rfl, h4⟩
  obtain ⟨N, hN⟩ : ∃ N, L.length = N := ⟨_, rfl⟩
  have hI4 : Box (Kept wb (AlkO bd bc base half bd2 b2 base2 half2 D1 M1 M2 R) w4 ∧ Row w4 9 1 (.slice a3 N c3) N (L.map nameV) ∧ Row w4 9 1 (.slice a4 N c4) N (L.map nameV)) := by
    have hr3 := rowBelow h3.out.1 h4.out.2.1
    have hr4 := h4.out.1
    rw [hN] at hr3 hr4
    exact ⟨h4.out.2.2, hr3, hr4⟩
  rw [hN]
  have hN64 : N ≤ 64 := by have := hLok.out.n; omega
  replace hN := Box.mk hN
  have hu1 : Box (Calls Tryz.prog 9 #[.pointer (some ⟨bc, 0, none⟩)] w4 fun e w' => e = .returned (.int .i64 (q : Int)) ∧ w4 = w') := ⟨by have := alk_num1 hI4.out.1; rwa [hm.out] at this⟩
  have hu2 : Box (Calls Tryz.prog 9 #[.pointer (some ⟨b2, 0, none⟩)] w4 fun e w' => e = .returned (.int .i64 (q : Int)) ∧ w4 = w') := ⟨by have := alk_num2 hI4.out.1; rwa [hq2.out] at this⟩
  clear hN2 h3 h4
  go_wp2_with fail
  refine hu1.out.mono ?_
  rintro e w5 ⟨rfl, rfl⟩
  clear hu1
  go_wp2_with fail
  refine hu2.out.mono ?_
  rintro e w5 ⟨rfl, rfl⟩
  clear hu2
  go_wp2_with fail
  go_loopw [56] (fun q wr => ∃ i : Nat, i ≤ N ∧ q = .int .i64 (i : Int) ∧ Box (Kept wb (AlkO bd bc base half bd2 b2 base2 half2 D1 M1 M2 R) wr ∧ Row wr 9 1 (.slice a3 N c3) N (L.map nameV) ∧ Row wr 9 1 (.slice a4 N c4) N (L.map nameV))) (fun q _ => N - (intOf q).toNat)
  case atStart => exact ⟨0, by omega, rfl, hI4⟩
  case round =>
    clear hI4
    obtain ⟨i, hi, rfl, hI⟩ := hrel
    by_cases hil : i < N
    · have hiL : i < L.length := by rw [hN.out]; exact hil
      obtain ⟨g3, c3', e3, hg3⟩ := hI.out.2.1.some (by omega)
      cases e3
      obtain ⟨g4, c4', e4, hg4⟩ := hI.out.2.2.some (by omega)
      cases e4
      have hnm : (L.map nameV)[i]? = some (.string (btx (L[i]).1)) := by rw [List.getElem?_map, List.getElem?_eq_getElem hiL]; rfl
      have k3 := hI.out.2.1.cells i _ hnm
      have k4 := hI.out.2.2.cells i _ hnm
      have hsz : (btx (L[i]).1).size ≤ maxLen := by
        rw [mk_size]
        have := (hLok.out.each (L[i]) (List.getElem_mem hiL))
        unfold maxLen
        omega
      obtain ⟨x, hx⟩ : ∃ x, btx (L[i]).1 = x := ⟨_, rfl⟩
      rw [hx] at k3 k4 hsz hnm
      obtain ⟨xx, yy, hxy⟩ : ∃ xx yy, getV L x.data.toList = .tuple #[.string xx, .bool yy] := ⟨_, _, rfl⟩
      have hG := alk_get1 g he.out hI.out.1 x hsz
      have hG2 := fun V (hV : Kept wb (AlkO bd bc base half bd2 b2 base2 half2 D1 M1 M2 R) V) => alk_get2 g hL2.out hV x hsz
      rw [hxy] at hG
      simp only [hxy] at hG2
      replace hG := Box.mk hG
      replace hG2 := Box.mk hG2
      replace hnm := Box.mk hnm
      replace hxy := Box.mk hxy
      clear hsz
      go_wp2_with fail
      refine hG.out.mono ?_
      rintro e w6 ⟨rfl, h6⟩
      have hr3 := rowBelow hI.out.2.1 h6.out.1
      have hr4 := rowBelow hI.out.2.2 h6.out.1
      have hF := Box.mk (hG2.out w6 h6.out.2)
      have m4 := hr4.cells i _ hnm.out
      have hr34 := Box.mk (And.intro hr3 hr4)
      clear k3 k4 hG hG2 hr3 hr4 h6 hI
      go_wp2_with fail
      refine hF.out.mono ?_
      rintro e w7 ⟨rfl, h7⟩
      have hI7 : Box (Kept wb (AlkO bd bc base half bd2 b2 base2 half2 D1 M1 M2 R) w7 ∧ Row w7 9 1 (.slice (some ⟨g3, 0, none⟩) N c3) N (L.map nameV) ∧ Row w7 9 1 (.slice (some ⟨g4, 0, none⟩) N c4) N (L.map nameV)) := ⟨h7.out.2, rowBelow hr34.out.1 h7.out.1, rowBelow hr34.out.2 h7.out.1⟩
      have p3 := hI7.out.2.1.cells i _ hnm.out
      have p4 := hI7.out.2.2.cells i _ hnm.out
      clear hF m4 h7 hr34
      go_wp2_with fail
      refine region_go (C := fun w' => w'.cell? ⟨g3, i, none⟩ = some (.string x) ∧ w'.cell? ⟨g4, i, none⟩ = some (.string x)) rfl ?_
      have hC7 : w7.drew.cell? ⟨g3, i, none⟩ = some (.string x) ∧ w7.drew.cell? ⟨g4, i, none⟩ = some (.string x) := ⟨p3, p4⟩
      have hI8 : Box (Kept wb (AlkO bd bc base half bd2 b2 base2 half2 D1 M1 M2 R) w7.drew ∧ Row w7.drew 9 1 (.slice (some ⟨g3, 0, none⟩) N c3) N (L.map nameV) ∧ Row w7.drew 9 1 (.slice (some ⟨g4, 0, none⟩) N c4) N (L.map nameV)) := ⟨hI7.out.1.below (AlkO.good g) (below_drew' _ w7), rowBelow hI7.out.2.1 (below_drew' _ w7), rowBelow hI7.out.2.2 (below_drew' _ w7)⟩
      generalize w7.drew = w8 at hC7 hI8 ⊢
      refine go_calms [0, 1, 2, 3, 4, 5, 6, 7, 8, 9, 10, 11, 12, 13] 0 rfl (by kernel_rfl) (by kernel_rfl) (by kernel_rfl) hC7 ?_
      simp [nth]
      try simp only [Act.put]
      repeat (go_big_quiet_step (first | exact fun _ => rfl | rfl))
      refine quiet_any rfl (.pointer (some ⟨g3, i, none⟩)) (fun w' hw' => by
        have h1 := hw'.1
        have h2 := hw'.2
        go_simp) ?_
      simp only [Act.put, List.setIfInBounds_toArray, List.set_cons_succ, List.set_cons_zero]
      refine quiet_any rfl (.string x) (fun w' hw' => by
        have h1 := hw'.1
        have h2 := hw'.2
        go_simp) ?_
      simp only [Act.put, List.setIfInBounds_toArray, List.set_cons_succ, List.set_cons_zero]
      repeat (go_big_quiet_step (first | exact fun _ => rfl | rfl))
      refine quiet_any rfl (.pointer (some ⟨g4, i, none⟩)) (fun w' hw' => by
        have h1 := hw'.1
        have h2 := hw'.2
        go_simp) ?_
      simp only [Act.put, List.setIfInBounds_toArray, List.set_cons_succ, List.set_cons_zero]
      refine quiet_any rfl (.string x) (fun w' hw' => by
        have h1 := hw'.1
        have h2 := hw'.2
        go_simp) ?_
      simp only [Act.put, List.setIfInBounds_toArray, List.set_cons_succ, List.set_cons_zero]
      refine quiet_any rfl (.bool false) (fun w' hw' => by
        have h1 := hw'.1
        have h2 := hw'.2
        go_simp) ?_
      simp only [Act.put, List.setIfInBounds_toArray, List.set_cons_succ, List.set_cons_zero]
      repeat (go_big_quiet_step (first | exact fun _ => rfl | rfl))
      refine quiet_any rfl (.bool false) (fun w' hw' => by
        have h1 := hw'.1
        have h2 := hw'.2
        go_simp) ?_
      simp only [Act.put, List.setIfInBounds_toArray, List.set_cons_succ, List.set_cons_zero]
      refine quiet_any rfl (.bool false) (fun w' hw' => by
        have h1 := hw'.1
        have h2 := hw'.2
        go_simp) ?_
      simp only [Act.put, List.setIfInBounds_toArray, List.set_cons_succ, List.set_cons_zero]
      repeat (go_big_quiet_step (first | exact fun _ => rfl | rfl))
      refine wpQuiet_nil ?_
      refine go_done (by kernel_rfl) ?_
      clear hC7 hI7 p3 p4
      go_wp2_with fail
      exact ⟨⟨i + 1, by omega, by go_num, hI8⟩, by simp [intOf]; omega⟩
    · obtain rfl : i = N := by omega
      have hfin := Box.mk hI.out.1
      clear hI
      go_wp2_with fail
      go_returns
      exact ⟨rfl, hfin⟩
set_option maxHeartbeats 6400000 in
set_option maxRecDepth 100000 in
theorem alike_undo (g : Good R) (h : Kept wb (AlkO bd bc base half bd2 b2 base2 half2 D M M2 R) w) (hk : k.toNat % 10 = 4) (he : ({ M with now := M.was }).now = M2.now) (hm : ({ M with now := M.was }).num = M2.num) :
    Calls Tryz.prog 15 #[.pointer (some ⟨bc, 0, none⟩), .agg #[.int .u8 (k.toNat : Int), .string s, .string t, .int .i64 n, v], .pointer (some ⟨b2, 0, none⟩)] w fun e w' => e = .returned (.bool true) ∧ Box (Kept wb (AlkO bd bc base half bd2 b2 base2 half2 (D) ({ M with now := M.was }) M2 R) w') := by
  obtain ⟨bo, hbo⟩ : ∃ bo, w.heap.size = bo := ⟨_, rfl⟩
  obtain ⟨w1, hw1⟩ : ∃ w1, w.alloc (.cells #[.int .u8 (k.toNat : Int), .string s, .string t, .int .i64 n, v] 31) = w1 := ⟨_, rfl⟩
  have hb1 := Blk.new w (opC k s t n v) 31
  rw [show w.alloc (.cells (opC k s t n v).toArray 31) = w1 from hw1, hbo] at hb1
  have o0 : w1.cell? ⟨bo, 0, none⟩ = some (.int .u8 (k.toNat : Int)) := hb1.cell 0
  have hK1 := h.below (AlkO.good g) (hw1 ▸ (Below.refl _ _).alloc (Nat.le_refl _) _ : Below w.heap.size w w1)
  have hU := Box.mk (alk_undo g hK1)
  have hki : (k.toNat : Int) % 10 = 4 := by omega
  obtain ⟨M1, hM1⟩ : ∃ M1, { M with now := M.was } = M1 := ⟨_, rfl⟩
  obtain ⟨D1, hD1⟩ : ∃ D1, D = D1 := ⟨_, rfl⟩
  rw [hM1] at hU he hm ⊢
  try rw [hD1] at hU ⊢
  obtain ⟨L, hL2⟩ : ∃ L, M2.now = L := ⟨_, rfl⟩
  obtain ⟨q, hq2⟩ : ∃ q, M2.num = q := ⟨_, rfl⟩
  rw [hL2] at he
  rw [hq2] at hm
  have hLok : Box L.ok := ⟨by
    obtain ⟨G, hG⟩ := hK1.alkO
    rw [← hL2]; exact hG.ok.now⟩
  replace he := Box.mk he
  replace hm := Box.mk hm
  replace hL2 := Box.mk hL2
  replace hq2 := Box.mk hq2
  clear hM1 hD1 hK1 h hb1 hk
  go_enter Tryz.func15, Tryz.ntmps15
  go_wp2_with fail
  refine hU.out.mono ?_
  rintro e w2 ⟨rfl, hk2⟩
  have hN1 := Box.mk (alk_names1 g he.out hk2.out)
  clear hU hk2 hw1 o0
  go_wp2_with fail
  refine hN1.out.mono ?_
  rintro e w3 ⟨a3, c3, rfl, h3⟩
  have hN2 := Box.mk (alk_names2 g hL2.out h3.out.2.2)
  clear hN1
  go_wp2_with fail
  refine hN2.out.mono ?_
  rintro e w4 ⟨a4, c4, rfl, h4⟩
  obtain ⟨N, hN⟩ : ∃ N, L.length = N := ⟨_, rfl⟩
  have hI4 : Box (Kept wb (AlkO bd bc base half bd2 b2 base2 half2 D1 M1 M2 R) w4 ∧ Row w4 9 1 (.slice a3 N c3) N (L.map nameV) ∧ Row w4 9 1 (.slice a4 N c4) N (L.map nameV)) := by
    have hr3 := rowBelow h3.out.1 h4.out.2.1
    have hr4 := h4.out.1
    rw [hN] at hr3 hr4
    exact ⟨h4.out.2.2, hr3, hr4⟩
  rw [hN]
  have hN64 : N ≤ 64 := by have := hLok.out.n; omega
  replace hN := Box.mk hN
  have hu1 : Box (Calls Tryz.prog 9 #[.pointer (some ⟨bc, 0, none⟩)] w4 fun e w' => e = .returned (.int .i64 (q : Int)) ∧ w4 = w') := ⟨by have := alk_num1 hI4.out.1; rwa [hm.out] at this⟩
  have hu2 : Box (Calls Tryz.prog 9 #[.pointer (some ⟨b2, 0, none⟩)] w4 fun e w' => e = .returned (.int .i64 (q : Int)) ∧ w4 = w') := ⟨by have := alk_num2 hI4.out.1; rwa [hq2.out] at this⟩
  clear hN2 h3 h4
  go_wp2_with fail
  refine hu1.out.mono ?_
  rintro e w5 ⟨rfl, rfl⟩
  clear hu1
  go_wp2_with fail
  refine hu2.out.mono ?_
  rintro e w5 ⟨rfl, rfl⟩
  clear hu2
  go_wp2_with fail
  go_loopw [56] (fun q wr => ∃ i : Nat, i ≤ N ∧ q = .int .i64 (i : Int) ∧ Box (Kept wb (AlkO bd bc base half bd2 b2 base2 half2 D1 M1 M2 R) wr ∧ Row wr 9 1 (.slice a3 N c3) N (L.map nameV) ∧ Row wr 9 1 (.slice a4 N c4) N (L.map nameV))) (fun q _ => N - (intOf q).toNat)
  case atStart => exact ⟨0, by omega, rfl, hI4⟩
  case round =>
    clear hI4
    obtain ⟨i, hi, rfl, hI⟩ := hrel
    by_cases hil : i < N
    · have hiL : i < L.length := by rw [hN.out]; exact hil
      obtain ⟨g3, c3', e3, hg3⟩ := hI.out.2.1.some (by omega)
      cases e3
      obtain ⟨g4, c4', e4, hg4⟩ := hI.out.2.2.some (by omega)
      cases e4
      have hnm : (L.map nameV)[i]? = some (.string (btx (L[i]).1)) := by rw [List.getElem?_map, List.getElem?_eq_getElem hiL]; rfl
      have k3 := hI.out.2.1.cells i _ hnm
      have k4 := hI.out.2.2.cells i _ hnm
      have hsz : (btx (L[i]).1).size ≤ maxLen := by
        rw [mk_size]
        have := (hLok.out.each (L[i]) (List.getElem_mem hiL))
        unfold maxLen
        omega
      obtain ⟨x, hx⟩ : ∃ x, btx (L[i]).1 = x := ⟨_, rfl⟩
      rw [hx] at k3 k4 hsz hnm
      obtain ⟨xx, yy, hxy⟩ : ∃ xx yy, getV L x.data.toList = .tuple #[.string xx, .bool yy] := ⟨_, _, rfl⟩
      have hG := alk_get1 g he.out hI.out.1 x hsz
      have hG2 := fun V (hV : Kept wb (AlkO bd bc base half bd2 b2 base2 half2 D1 M1 M2 R) V) => alk_get2 g hL2.out hV x hsz
      rw [hxy] at hG
      simp only [hxy] at hG2
      replace hG := Box.mk hG
      replace hG2 := Box.mk hG2
      replace hnm := Box.mk hnm
      replace hxy := Box.mk hxy
      clear hsz
      go_wp2_with fail
      refine hG.out.mono ?_
      rintro e w6 ⟨rfl, h6⟩
      have hr3 := rowBelow hI.out.2.1 h6.out.1
      have hr4 := rowBelow hI.out.2.2 h6.out.1
      have hF := Box.mk (hG2.out w6 h6.out.2)
      have m4 := hr4.cells i _ hnm.out
      have hr34 := Box.mk (And.intro hr3 hr4)
      clear k3 k4 hG hG2 hr3 hr4 h6 hI
      go_wp2_with fail
      refine hF.out.mono ?_
      rintro e w7 ⟨rfl, h7⟩
      have hI7 : Box (Kept wb (AlkO bd bc base half bd2 b2 base2 half2 D1 M1 M2 R) w7 ∧ Row w7 9 1 (.slice (some ⟨g3, 0, none⟩) N c3) N (L.map nameV) ∧ Row w7 9 1 (.slice (some ⟨g4, 0, none⟩) N c4) N (L.map nameV)) := ⟨h7.out.2, rowBelow hr34.out.1 h7.out.1, rowBelow hr34.out.2 h7.out.1⟩
      have p3 := hI7.out.2.1.cells i _ hnm.out
      have p4 := hI7.out.2.2.cells i _ hnm.out
      clear hF m4 h7 hr34
      go_wp2_with fail
      refine region_go (C := fun w' => w'.cell? ⟨g3, i, none⟩ = some (.string x) ∧ w'.cell? ⟨g4, i, none⟩ = some (.string x)) rfl ?_
      have hC7 : w7.drew.cell? ⟨g3, i, none⟩ = some (.string x) ∧ w7.drew.cell? ⟨g4, i, none⟩ = some (.string x) := ⟨p3, p4⟩
      have hI8 : Box (Kept wb (AlkO bd bc base half bd2 b2 base2 half2 D1 M1 M2 R) w7.drew ∧ Row w7.drew 9 1 (.slice (some ⟨g3, 0, none⟩) N c3) N (L.map nameV) ∧ Row w7.drew 9 1 (.slice (some ⟨g4, 0, none⟩) N c4) N (L.map nameV)) := ⟨hI7.out.1.below (AlkO.good g) (below_drew' _ w7), rowBelow hI7.out.2.1 (below_drew' _ w7), rowBelow hI7.out.2.2 (below_drew' _ w7)⟩
      generalize w7.drew = w8 at hC7 hI8 ⊢
      refine go_calms [0, 1, 2, 3, 4, 5, 6, 7, 8, 9, 10, 11, 12, 13] 0 rfl (by kernel_rfl) (by kernel_rfl) (by kernel_rfl) hC7 ?_
      simp [nth]
      try simp only [Act.put]
      repeat (go_big_quiet_step (first | exact fun _ => rfl | rfl))
      refine quiet_any rfl (.pointer (some ⟨g3, i, none⟩)) (fun w' hw' => by
        have h1 := hw'.1
        have h2 := hw'.2
        go_simp) ?_
      simp only [Act.put, List.setIfInBounds_toArray, List.set_cons_succ, List.set_cons_zero]
      refine quiet_any rfl (.string x) (fun w' hw' => by
        have h1 := hw'.1
        have h2 := hw'.2
        go_simp) ?_
      simp only [Act.put, List.setIfInBounds_toArray, List.set_cons_succ, List.set_cons_zero]
      repeat (go_big_quiet_step (first | exact fun _ => rfl | rfl))
      refine quiet_any rfl (.pointer (some ⟨g4, i, none⟩)) (fun w' hw' => by
        have h1 := hw'.1
        have h2 := hw'.2
        go_simp) ?_
      simp only [Act.put, List.setIfInBounds_toArray, List.set_cons_succ, List.set_cons_zero]
      refine quiet_any rfl (.string x) (fun w' hw' => by
        have h1 := hw'.1
        have h2 := hw'.2
        go_simp) ?_
      simp only [Act.put, List.setIfInBounds_toArray, List.set_cons_succ, List.set_cons_zero]
      refine quiet_any rfl (.bool false) (fun w' hw' => by
        have h1 := hw'.1
        have h2 := hw'.2
        go_simp) ?_
      simp only [Act.put, List.setIfInBounds_toArray, List.set_cons_succ, List.set_cons_zero]
      repeat (go_big_quiet_step (first | exact fun _ => rfl | rfl))
      refine quiet_any rfl (.bool false) (fun w' hw' => by
        have h1 := hw'.1
        have h2 := hw'.2
        go_simp) ?_
      simp only [Act.put, List.setIfInBounds_toArray, List.set_cons_succ, List.set_cons_zero]
      refine quiet_any rfl (.bool false) (fun w' hw' => by
        have h1 := hw'.1
        have h2 := hw'.2
        go_simp) ?_
      simp only [Act.put, List.setIfInBounds_toArray, List.set_cons_succ, List.set_cons_zero]
      repeat (go_big_quiet_step (first | exact fun _ => rfl | rfl))
      refine wpQuiet_nil ?_
      refine go_done (by kernel_rfl) ?_
      clear hC7 hI7 p3 p4
      go_wp2_with fail
      exact ⟨⟨i + 1, by omega, by go_num, hI8⟩, by simp [intOf]; omega⟩
    · obtain rfl : i = N := by omega
      have hfin := Box.mk hI.out.1
      clear hI
      go_wp2_with fail
      go_returns
      exact ⟨rfl, hfin⟩
set_option maxHeartbeats 6400000 in
set_option maxRecDepth 100000 in
theorem alike_commit5 (g : Good R) (h : Kept wb (AlkO bd bc base half bd2 b2 base2 half2 D M M2 R) w) (hk : k.toNat % 10 = 5) (ht : D.taken ≤ 100000) (hf : D.fall ≤ 9223372036854775807) (hw : D.ws.length ≤ 100000) (hn : M.num < 1000000) (he : (commitC base half D M).now = M2.now) (hm : (commitC base half D M).num = M2.num) :
    Calls Tryz.prog 15 #[.pointer (some ⟨bc, 0, none⟩), .agg #[.int .u8 (k.toNat : Int), .string s, .string t, .int .i64 n, v], .pointer (some ⟨b2, 0, none⟩)] w fun e w' => e = .returned (.bool true) ∧ Box (Kept wb (AlkO bd bc base half bd2 b2 base2 half2 (commitD base half D M) (commitC base half D M) M2 R) w') := by
  obtain ⟨bo, hbo⟩ : ∃ bo, w.heap.size = bo := ⟨_, rfl⟩
  obtain ⟨w1, hw1⟩ : ∃ w1, w.alloc (.cells #[.int .u8 (k.toNat : Int), .string s, .string t, .int .i64 n, v] 31) = w1 := ⟨_, rfl⟩
  have hb1 := Blk.new w (opC k s t n v) 31
  rw [show w.alloc (.cells (opC k s t n v).toArray 31) = w1 from hw1, hbo] at hb1
  have o0 : w1.cell? ⟨bo, 0, none⟩ = some (.int .u8 (k.toNat : Int)) := hb1.cell 0
  have hK1 := h.below (AlkO.good g) (hw1 ▸ (Below.refl _ _).alloc (Nat.le_refl _) _ : Below w.heap.size w w1)
  have hU := Box.mk (alk_commit g hK1 ht hf hw hn)
  have hki : (k.toNat : Int) % 10 = 5 := by omega
  clear ht hf hw hn
  obtain ⟨M1, hM1⟩ : ∃ M1, commitC base half D M = M1 := ⟨_, rfl⟩
  obtain ⟨D1, hD1⟩ : ∃ D1, commitD base half D M = D1 := ⟨_, rfl⟩
  rw [hM1] at hU he hm ⊢
  try rw [hD1] at hU ⊢
  obtain ⟨L, hL2⟩ : ∃ L, M2.now = L := ⟨_, rfl⟩
  obtain ⟨q, hq2⟩ : ∃ q, M2.num = q := ⟨_, rfl⟩
  rw [hL2] at he
  rw [hq2] at hm
  have hLok : Box L.ok := ⟨by
    obtain ⟨G, hG⟩ := hK1.alkO
    rw [← hL2]; exact hG.ok.now⟩
  replace he := Box.mk he
  replace hm := Box.mk hm
  replace hL2 := Box.mk hL2
  replace hq2 := Box.mk hq2
  clear hM1 hD1 hK1 h hb1 hk
  go_enter Tryz.func15, Tryz.ntmps15
  go_wp2_with fail
  refine hU.out.mono ?_
  rintro e w2 ⟨rfl, hk2⟩
  have hN1 := Box.mk (alk_names1 g he.out hk2.out)
  clear hU hk2 hw1 o0
  go_wp2_with fail
  refine hN1.out.mono ?_
  rintro e w3 ⟨a3, c3, rfl, h3⟩
  have hN2 := Box.mk (alk_names2 g hL2.out h3.out.2.2)
  clear hN1
  go_wp2_with fail
  refine hN2.out.mono ?_
  rintro e w4 ⟨a4, c4, rfl, h4⟩
  obtain ⟨N, hN⟩ : ∃ N, L.length = N := ⟨_, rfl⟩
  have hI4 : Box (Kept wb (AlkO bd bc base half bd2 b2 base2 half2 D1 M1 M2 R) w4 ∧ Row w4 9 1 (.slice a3 N c3) N (L.map nameV) ∧ Row w4 9 1 (.slice a4 N c4) N (L.map nameV)) := by
    have hr3 := rowBelow h3.out.1 h4.out.2.1
    have hr4 := h4.out.1
    rw [hN] at hr3 hr4
    exact ⟨h4.out.2.2, hr3, hr4⟩
  rw [hN]
  have hN64 : N ≤ 64 := by have := hLok.out.n; omega
  replace hN := Box.mk hN
  have hu1 : Box (Calls Tryz.prog 9 #[.pointer (some ⟨bc, 0, none⟩)] w4 fun e w' => e = .returned (.int .i64 (q : Int)) ∧ w4 = w') := ⟨by have := alk_num1 hI4.out.1; rwa [hm.out] at this⟩
  have hu2 : Box (Calls Tryz.prog 9 #[.pointer (some ⟨b2, 0, none⟩)] w4 fun e w' => e = .returned (.int .i64 (q : Int)) ∧ w4 = w') := ⟨by have := alk_num2 hI4.out.1; rwa [hq2.out] at this⟩
  clear hN2 h3 h4
  go_wp2_with fail
  refine hu1.out.mono ?_
  rintro e w5 ⟨rfl, rfl⟩
  clear hu1
  go_wp2_with fail
  refine hu2.out.mono ?_
  rintro e w5 ⟨rfl, rfl⟩
  clear hu2
  go_wp2_with fail
  go_loopw [56] (fun q wr => ∃ i : Nat, i ≤ N ∧ q = .int .i64 (i : Int) ∧ Box (Kept wb (AlkO bd bc base half bd2 b2 base2 half2 D1 M1 M2 R) wr ∧ Row wr 9 1 (.slice a3 N c3) N (L.map nameV) ∧ Row wr 9 1 (.slice a4 N c4) N (L.map nameV))) (fun q _ => N - (intOf q).toNat)
  case atStart => exact ⟨0, by omega, rfl, hI4⟩
  case round =>
    clear hI4
    obtain ⟨i, hi, rfl, hI⟩ := hrel
    by_cases hil : i < N
    · have hiL : i < L.length := by rw [hN.out]; exact hil
      obtain ⟨g3, c3', e3, hg3⟩ := hI.out.2.1.some (by omega)
      cases e3
      obtain ⟨g4, c4', e4, hg4⟩ := hI.out.2.2.some (by omega)
      cases e4
      have hnm : (L.map nameV)[i]? = some (.string (btx (L[i]).1)) := by rw [List.getElem?_map, List.getElem?_eq_getElem hiL]; rfl
      have k3 := hI.out.2.1.cells i _ hnm
      have k4 := hI.out.2.2.cells i _ hnm
      have hsz : (btx (L[i]).1).size ≤ maxLen := by
        rw [mk_size]
        have := (hLok.out.each (L[i]) (List.getElem_mem hiL))
        unfold maxLen
        omega
      obtain ⟨x, hx⟩ : ∃ x, btx (L[i]).1 = x := ⟨_, rfl⟩
      rw [hx] at k3 k4 hsz hnm
      obtain ⟨xx, yy, hxy⟩ : ∃ xx yy, getV L x.data.toList = .tuple #[.string xx, .bool yy] := ⟨_, _, rfl⟩
      have hG := alk_get1 g he.out hI.out.1 x hsz
      have hG2 := fun V (hV : Kept wb (AlkO bd bc base half bd2 b2 base2 half2 D1 M1 M2 R) V) => alk_get2 g hL2.out hV x hsz
      rw [hxy] at hG
      simp only [hxy] at hG2
      replace hG := Box.mk hG
      replace hG2 := Box.mk hG2
      replace hnm := Box.mk hnm
      replace hxy := Box.mk hxy
      clear hsz
      go_wp2_with fail
      refine hG.out.mono ?_
      rintro e w6 ⟨rfl, h6⟩
      have hr3 := rowBelow hI.out.2.1 h6.out.1
      have hr4 := rowBelow hI.out.2.2 h6.out.1
      have hF := Box.mk (hG2.out w6 h6.out.2)
      have m4 := hr4.cells i _ hnm.out
      have hr34 := Box.mk (And.intro hr3 hr4)
      clear k3 k4 hG hG2 hr3 hr4 h6 hI
      go_wp2_with fail
      refine hF.out.mono ?_
      rintro e w7 ⟨rfl, h7⟩
      have hI7 : Box (Kept wb (AlkO bd bc base half bd2 b2 base2 half2 D1 M1 M2 R) w7 ∧ Row w7 9 1 (.slice (some ⟨g3, 0, none⟩) N c3) N (L.map nameV) ∧ Row w7 9 1 (.slice (some ⟨g4, 0, none⟩) N c4) N (L.map nameV)) := ⟨h7.out.2, rowBelow hr34.out.1 h7.out.1, rowBelow hr34.out.2 h7.out.1⟩
      have p3 := hI7.out.2.1.cells i _ hnm.out
      have p4 := hI7.out.2.2.cells i _ hnm.out
      clear hF m4 h7 hr34
      go_wp2_with fail
      refine region_go (C := fun w' => w'.cell? ⟨g3, i, none⟩ = some (.string x) ∧ w'.cell? ⟨g4, i, none⟩ = some (.string x)) rfl ?_
      have hC7 : w7.drew.cell? ⟨g3, i, none⟩ = some (.string x) ∧ w7.drew.cell? ⟨g4, i, none⟩ = some (.string x) := ⟨p3, p4⟩
      have hI8 : Box (Kept wb (AlkO bd bc base half bd2 b2 base2 half2 D1 M1 M2 R) w7.drew ∧ Row w7.drew 9 1 (.slice (some ⟨g3, 0, none⟩) N c3) N (L.map nameV) ∧ Row w7.drew 9 1 (.slice (some ⟨g4, 0, none⟩) N c4) N (L.map nameV)) := ⟨hI7.out.1.below (AlkO.good g) (below_drew' _ w7), rowBelow hI7.out.2.1 (below_drew' _ w7), rowBelow hI7.out.2.2 (below_drew' _ w7)⟩
      generalize w7.drew = w8 at hC7 hI8 ⊢
      refine go_calms [0, 1, 2, 3, 4, 5, 6, 7, 8, 9, 10, 11, 12, 13] 0 rfl (by kernel_rfl) (by kernel_rfl) (by kernel_rfl) hC7 ?_
      simp [nth]
      try simp only [Act.put]
      repeat (go_big_quiet_step (first | exact fun _ => rfl | rfl))
      refine quiet_any rfl (.pointer (some ⟨g3, i, none⟩)) (fun w' hw' => by
        have h1 := hw'.1
        have h2 := hw'.2
        go_simp) ?_
      simp only [Act.put, List.setIfInBounds_toArray, List.set_cons_succ, List.set_cons_zero]
      refine quiet_any rfl (.string x) (fun w' hw' => by
        have h1 := hw'.1
        have h2 := hw'.2
        go_simp) ?_
      simp only [Act.put, List.setIfInBounds_toArray, List.set_cons_succ, List.set_cons_zero]
      repeat (go_big_quiet_step (first | exact fun _ => rfl | rfl))
      refine quiet_any rfl (.pointer (some ⟨g4, i, none⟩)) (fun w' hw' => by
        have h1 := hw'.1
        have h2 := hw'.2
        go_simp) ?_
      simp only [Act.put, List.setIfInBounds_toArray, List.set_cons_succ, List.set_cons_zero]
      refine quiet_any rfl (.string x) (fun w' hw' => by
        have h1 := hw'.1
        have h2 := hw'.2
        go_simp) ?_
      simp only [Act.put, List.setIfInBounds_toArray, List.set_cons_succ, List.set_cons_zero]
      refine quiet_any rfl (.bool false) (fun w' hw' => by
        have h1 := hw'.1
        have h2 := hw'.2
        go_simp) ?_
      simp only [Act.put, List.setIfInBounds_toArray, List.set_cons_succ, List.set_cons_zero]
      repeat (go_big_quiet_step (first | exact fun _ => rfl | rfl))
      refine quiet_any rfl (.bool false) (fun w' hw' => by
        have h1 := hw'.1
        have h2 := hw'.2
        go_simp) ?_
      simp only [Act.put, List.setIfInBounds_toArray, List.set_cons_succ, List.set_cons_zero]
      refine quiet_any rfl (.bool false) (fun w' hw' => by
        have h1 := hw'.1
        have h2 := hw'.2
        go_simp) ?_
      simp only [Act.put, List.setIfInBounds_toArray, List.set_cons_succ, List.set_cons_zero]
      repeat (go_big_quiet_step (first | exact fun _ => rfl | rfl))
      refine wpQuiet_nil ?_
      refine go_done (by kernel_rfl) ?_
      clear hC7 hI7 p3 p4
      go_wp2_with fail
      exact ⟨⟨i + 1, by omega, by go_num, hI8⟩, by simp [intOf]; omega⟩
    · obtain rfl : i = N := by omega
      have hfin := Box.mk hI.out.1
      clear hI
      go_wp2_with fail
      go_returns
      exact ⟨rfl, hfin⟩
set_option maxHeartbeats 6400000 in
set_option maxRecDepth 100000 in
theorem alike_commit6 (g : Good R) (h : Kept wb (AlkO bd bc base half bd2 b2 base2 half2 D M M2 R) w) (hk : k.toNat % 10 = 6) (ht : D.taken ≤ 100000) (hf : D.fall ≤ 9223372036854775807) (hw : D.ws.length ≤ 100000) (hn : M.num < 1000000) (he : (commitC base half D M).now = M2.now) (hm : (commitC base half D M).num = M2.num) :
    Calls Tryz.prog 15 #[.pointer (some ⟨bc, 0, none⟩), .agg #[.int .u8 (k.toNat : Int), .string s, .string t, .int .i64 n, v], .pointer (some ⟨b2, 0, none⟩)] w fun e w' => e = .returned (.bool true) ∧ Box (Kept wb (AlkO bd bc base half bd2 b2 base2 half2 (commitD base half D M) (commitC base half D M) M2 R) w') := by
  obtain ⟨bo, hbo⟩ : ∃ bo, w.heap.size = bo := ⟨_, rfl⟩
  obtain ⟨w1, hw1⟩ : ∃ w1, w.alloc (.cells #[.int .u8 (k.toNat : Int), .string s, .string t, .int .i64 n, v] 31) = w1 := ⟨_, rfl⟩
  have hb1 := Blk.new w (opC k s t n v) 31
  rw [show w.alloc (.cells (opC k s t n v).toArray 31) = w1 from hw1, hbo] at hb1
  have o0 : w1.cell? ⟨bo, 0, none⟩ = some (.int .u8 (k.toNat : Int)) := hb1.cell 0
  have hK1 := h.below (AlkO.good g) (hw1 ▸ (Below.refl _ _).alloc (Nat.le_refl _) _ : Below w.heap.size w w1)
  have hU := Box.mk (alk_commit g hK1 ht hf hw hn)
  have hki : (k.toNat : Int) % 10 = 6 := by omega
  clear ht hf hw hn
  obtain ⟨M1, hM1⟩ : ∃ M1, commitC base half D M = M1 := ⟨_, rfl⟩
  obtain ⟨D1, hD1⟩ : ∃ D1, commitD base half D M = D1 := ⟨_, rfl⟩
  rw [hM1] at hU he hm ⊢
  try rw [hD1] at hU ⊢
  obtain ⟨L, hL2⟩ : ∃ L, M2.now = L := ⟨_, rfl⟩
  obtain ⟨q, hq2⟩ : ∃ q, M2.num = q := ⟨_, rfl⟩
  rw [hL2] at he
  rw [hq2] at hm
  have hLok : Box L.ok := ⟨by
    obtain ⟨G, hG⟩ := hK1.alkO
    rw [← hL2]; exact hG.ok.now⟩
  replace he := Box.mk he
  replace hm := Box.mk hm
  replace hL2 := Box.mk hL2
  replace hq2 := Box.mk hq2
  clear hM1 hD1 hK1 h hb1 hk
  go_enter Tryz.func15, Tryz.ntmps15
  go_wp2_with fail
  refine hU.out.mono ?_
  rintro e w2 ⟨rfl, hk2⟩
  have hN1 := Box.mk (alk_names1 g he.out hk2.out)
  clear hU hk2 hw1 o0
  go_wp2_with fail
  refine hN1.out.mono ?_
  rintro e w3 ⟨a3, c3, rfl, h3⟩
  have hN2 := Box.mk (alk_names2 g hL2.out h3.out.2.2)
  clear hN1
  go_wp2_with fail
  refine hN2.out.mono ?_
  rintro e w4 ⟨a4, c4, rfl, h4⟩
  obtain ⟨N, hN⟩ : ∃ N, L.length = N := ⟨_, rfl⟩
  have hI4 : Box (Kept wb (AlkO bd bc base half bd2 b2 base2 half2 D1 M1 M2 R) w4 ∧ Row w4 9 1 (.slice a3 N c3) N (L.map nameV) ∧ Row w4 9 1 (.slice a4 N c4) N (L.map nameV)) := by
    have hr3 := rowBelow h3.out.1 h4.out.2.1
    have hr4 := h4.out.1
    rw [hN] at hr3 hr4
    exact ⟨h4.out.2.2, hr3, hr4⟩
  rw [hN]
  have hN64 : N ≤ 64 := by have := hLok.out.n; omega
  replace hN := Box.mk hN
  have hu1 : Box (Calls Tryz.prog 9 #[.pointer (some ⟨bc, 0, none⟩)] w4 fun e w' => e = .returned (.int .i64 (q : Int)) ∧ w4 = w') := ⟨by have := alk_num1 hI4.out.1; rwa [hm.out] at this⟩
  have hu2 : Box (Calls Tryz.prog 9 #[.pointer (some ⟨b2, 0, none⟩)] w4 fun e w' => e = .returned (.int .i64 (q : Int)) ∧ w4 = w') := ⟨by have := alk_num2 hI4.out.1; rwa [hq2.out] at this⟩
  clear hN2 h3 h4
  go_wp2_with fail
  refine hu1.out.mono ?_
  rintro e w5 ⟨rfl, rfl⟩
  clear hu1
  go_wp2_with fail
  refine hu2.out.mono ?_
  rintro e w5 ⟨rfl, rfl⟩
  clear hu2
  go_wp2_with fail
  go_loopw [56] (fun q wr => ∃ i : Nat, i ≤ N ∧ q = .int .i64 (i : Int) ∧ Box (Kept wb (AlkO bd bc base half bd2 b2 base2 half2 D1 M1 M2 R) wr ∧ Row wr 9 1 (.slice a3 N c3) N (L.map nameV) ∧ Row wr 9 1 (.slice a4 N c4) N (L.map nameV))) (fun q _ => N - (intOf q).toNat)
  case atStart => exact ⟨0, by omega, rfl, hI4⟩
  case round =>
    clear hI4
    obtain ⟨i, hi, rfl, hI⟩ := hrel
    by_cases hil : i < N
    · have hiL : i < L.length := by rw [hN.out]; exact hil
      obtain ⟨g3, c3', e3, hg3⟩ := hI.out.2.1.some (by omega)
      cases e3
      obtain ⟨g4, c4', e4, hg4⟩ := hI.out.2.2.some (by omega)
      cases e4
      have hnm : (L.map nameV)[i]? = some (.string (btx (L[i]).1)) := by rw [List.getElem?_map, List.getElem?_eq_getElem hiL]; rfl
      have k3 := hI.out.2.1.cells i _ hnm
      have k4 := hI.out.2.2.cells i _ hnm
      have hsz : (btx (L[i]).1).size ≤ maxLen := by
        rw [mk_size]
        have := (hLok.out.each (L[i]) (List.getElem_mem hiL))
        unfold maxLen
        omega
      obtain ⟨x, hx⟩ : ∃ x, btx (L[i]).1 = x := ⟨_, rfl⟩
      rw [hx] at k3 k4 hsz hnm
      obtain ⟨xx, yy, hxy⟩ : ∃ xx yy, getV L x.data.toList = .tuple #[.string xx, .bool yy] := ⟨_, _, rfl⟩
      have hG := alk_get1 g he.out hI.out.1 x hsz
      have hG2 := fun V (hV : Kept wb (AlkO bd bc base half bd2 b2 base2 half2 D1 M1 M2 R) V) => alk_get2 g hL2.out hV x hsz
      rw [hxy] at hG
      simp only [hxy] at hG2
      replace hG := Box.mk hG
      replace hG2 := Box.mk hG2
      replace hnm := Box.mk hnm
      replace hxy := Box.mk hxy
      clear hsz
      go_wp2_with fail
      refine hG.out.mono ?_
      rintro e w6 ⟨rfl, h6⟩
      have hr3 := rowBelow hI.out.2.1 h6.out.1
      have hr4 := rowBelow hI.out.2.2 h6.out.1
      have hF := Box.mk (hG2.out w6 h6.out.2)
      have m4 := hr4.cells i _ hnm.out
      have hr34 := Box.mk (And.intro hr3 hr4)
      clear k3 k4 hG hG2 hr3 hr4 h6 hI
      go_wp2_with fail
      refine hF.out.mono ?_
      rintro e w7 ⟨rfl, h7⟩
      have hI7 : Box (Kept wb (AlkO bd bc base half bd2 b2 base2 half2 D1 M1 M2 R) w7 ∧ Row w7 9 1 (.slice (some ⟨g3, 0, none⟩) N c3) N (L.map nameV) ∧ Row w7 9 1 (.slice (some ⟨g4, 0, none⟩) N c4) N (L.map nameV)) := ⟨h7.out.2, rowBelow hr34.out.1 h7.out.1, rowBelow hr34.out.2 h7.out.1⟩
      have p3 := hI7.out.2.1.cells i _ hnm.out
      have p4 := hI7.out.2.2.cells i _ hnm.out
      clear hF m4 h7 hr34
      go_wp2_with fail
      refine region_go (C := fun w' => w'.cell? ⟨g3, i, none⟩ = some (.string x) ∧ w'.cell? ⟨g4, i, none⟩ = some (.string x)) rfl ?_
      have hC7 : w7.drew.cell? ⟨g3, i, none⟩ = some (.string x) ∧ w7.drew.cell? ⟨g4, i, none⟩ = some (.string x) := ⟨p3, p4⟩
      have hI8 : Box (Kept wb (AlkO bd bc base half bd2 b2 base2 half2 D1 M1 M2 R) w7.drew ∧ Row w7.drew 9 1 (.slice (some ⟨g3, 0, none⟩) N c3) N (L.map nameV) ∧ Row w7.drew 9 1 (.slice (some ⟨g4, 0, none⟩) N c4) N (L.map nameV)) := ⟨hI7.out.1.below (AlkO.good g) (below_drew' _ w7), rowBelow hI7.out.2.1 (below_drew' _ w7), rowBelow hI7.out.2.2 (below_drew' _ w7)⟩
      generalize w7.drew = w8 at hC7 hI8 ⊢
      refine go_calms [0, 1, 2, 3, 4, 5, 6, 7, 8, 9, 10, 11, 12, 13] 0 rfl (by kernel_rfl) (by kernel_rfl) (by kernel_rfl) hC7 ?_
      simp [nth]
      try simp only [Act.put]
      repeat (go_big_quiet_step (first | exact fun _ => rfl | rfl))
      refine quiet_any rfl (.pointer (some ⟨g3, i, none⟩)) (fun w' hw' => by
        have h1 := hw'.1
        have h2 := hw'.2
        go_simp) ?_
      simp only [Act.put, List.setIfInBounds_toArray, List.set_cons_succ, List.set_cons_zero]
      refine quiet_any rfl (.string x) (fun w' hw' => by
        have h1 := hw'.1
        have h2 := hw'.2
        go_simp) ?_
      simp only [Act.put, List.setIfInBounds_toArray, List.set_cons_succ, List.set_cons_zero]
      repeat (go_big_quiet_step (first | exact fun _ => rfl | rfl))
      refine quiet_any rfl (.pointer (some ⟨g4, i, none⟩)) (fun w' hw' => by
        have h1 := hw'.1
        have h2 := hw'.2
        go_simp) ?_
      simp only [Act.put, List.setIfInBounds_toArray, List.set_cons_succ, List.set_cons_zero]
      refine quiet_any rfl (.string x) (fun w' hw' => by
        have h1 := hw'.1
        have h2 := hw'.2
        go_simp) ?_
      simp only [Act.put, List.setIfInBounds_toArray, List.set_cons_succ, List.set_cons_zero]
      refine quiet_any rfl (.bool false) (fun w' hw' => by
        have h1 := hw'.1
        have h2 := hw'.2
        go_simp) ?_
      simp only [Act.put, List.setIfInBounds_toArray, List.set_cons_succ, List.set_cons_zero]
      repeat (go_big_quiet_step (first | exact fun _ => rfl | rfl))
      refine quiet_any rfl (.bool false) (fun w' hw' => by
        have h1 := hw'.1
        have h2 := hw'.2
        go_simp) ?_
      simp only [Act.put, List.setIfInBounds_toArray, List.set_cons_succ, List.set_cons_zero]
      refine quiet_any rfl (.bool false) (fun w' hw' => by
        have h1 := hw'.1
        have h2 := hw'.2
        go_simp) ?_
      simp only [Act.put, List.setIfInBounds_toArray, List.set_cons_succ, List.set_cons_zero]
      repeat (go_big_quiet_step (first | exact fun _ => rfl | rfl))
      refine wpQuiet_nil ?_
      refine go_done (by kernel_rfl) ?_
      clear hC7 hI7 p3 p4
      go_wp2_with fail
      exact ⟨⟨i + 1, by omega, by go_num, hI8⟩, by simp [intOf]; omega⟩
    · obtain rfl : i = N := by omega
      have hfin := Box.mk hI.out.1
      clear hI
      go_wp2_with fail
      go_returns
      exact ⟨rfl, hfin⟩
/-- alike for every kind that the law lets through. -/
theorem alike_all (g : Good R) (h : Kept wb (AlkO bd bc base half bd2 b2 base2 half2 D M M2 R) w) (hk : k.toNat % 10 < 7) (hs : s.size ≤ maxLen) (ht : t.size ≤ maxLen) (htk : D.taken ≤ 100000) (hf : D.fall ≤ 9223372036854775807) (hw : D.ws.length ≤ 100000) (hn : M.num < 1000000) (he : (stC base half D (k.toNat % 10) s.data.toList t.data.toList M).now = M2.now) (hm : (stC base half D (k.toNat % 10) s.data.toList t.data.toList M).num = M2.num) :
    Calls Tryz.prog 15 #[.pointer (some ⟨bc, 0, none⟩), .agg #[.int .u8 (k.toNat : Int), .string s, .string t, .int .i64 n, v], .pointer (some ⟨b2, 0, none⟩)] w fun e w' => e = .returned (.bool true) ∧ Box (Kept wb (AlkO bd bc base half bd2 b2 base2 half2 (stD base half D (k.toNat % 10) M) (stC base half D (k.toNat % 10) s.data.toList t.data.toList M) M2 R) w') := by
  rcases (show k.toNat % 10 < 3 ∨ k.toNat % 10 = 3 ∨ k.toNat % 10 = 4 ∨ k.toNat % 10 = 5 ∨ k.toNat % 10 = 6 by omega) with h0 | h0 | h0 | h0 | h0
  · have e1 : stD base half D (k.toNat % 10) M = D := by unfold stD; rw [if_neg (by omega)]
    have e2 : stC base half D (k.toNat % 10) s.data.toList t.data.toList M = { M with now := putM M.now s.data.toList t.data.toList } := by unfold stC; rw [if_neg (by omega), if_neg (by omega), if_neg (by omega)]
    rw [e2] at he hm
    rw [e1, e2]; exact alike_put g h h0 hs ht he hm
  · have e1 : stD base half D (k.toNat % 10) M = D := by unfold stD; rw [if_neg (by omega)]
    have e2 : stC base half D (k.toNat % 10) s.data.toList t.data.toList M = { M with now := dropC M.now s.data.toList } := by unfold stC; rw [if_pos h0]
    rw [e2] at he hm
    rw [e1, e2]; exact alike_drop g h h0 hs he hm
  · have e1 : stD base half D (k.toNat % 10) M = D := by unfold stD; rw [if_neg (by omega)]
    have e2 : stC base half D (k.toNat % 10) s.data.toList t.data.toList M = { M with now := M.was } := by unfold stC; rw [if_neg (by omega), if_pos h0]
    rw [e2] at he hm
    rw [e1, e2]; exact alike_undo g h h0 he hm
  · have e1 : stD base half D (k.toNat % 10) M = commitD base half D M := by unfold stD; rw [if_pos (.inl h0)]
    have e2 : stC base half D (k.toNat % 10) s.data.toList t.data.toList M = commitC base half D M := by unfold stC; rw [if_neg (by omega), if_neg (by omega), if_pos (.inl h0)]
    rw [e2] at he hm
    rw [e1, e2]; exact alike_commit5 g h h0 htk hf hw hn he hm
  · have e1 : stD base half D (k.toNat % 10) M = commitD base half D M := by unfold stD; rw [if_pos (.inr h0)]
    have e2 : stC base half D (k.toNat % 10) s.data.toList t.data.toList M = commitC base half D M := by unfold stC; rw [if_neg (by omega), if_neg (by omega), if_pos (.inr h0)]
    rw [e2] at he hm
    rw [e1, e2]; exact alike_commit6 g h h0 htk hf hw hn he hm
end
end Go.Proofs.YtoaipjpbioaneaaGreat

namespace Go.Proofs.YtoaipjpbioaneaaGreat
open Go.RowKit Go.Maps

/-! ### Things side by side, in another order -/
def Conv (A B : Obj) : Prop := ∀ w F, A w F → B w F
section
variable {A A' B B' C : Obj}
theorem Conv.trans (h : Conv A B) (k : Conv B C) : Conv A C := fun w F x => k w F (h w F x)
theorem cvSwap : Conv (Pair2 A B) (Pair2 B A) := fun _ _ h => h.swap
theorem cvAssoc : Conv (Pair2 (Pair2 A B) C) (Pair2 A (Pair2 B C)) := fun _ _ h => Pair2.assoc h
theorem cvAssoc' : Conv (Pair2 A (Pair2 B C)) (Pair2 (Pair2 A B) C) := fun _ _ h => Pair2.assoc' h
theorem cvRight (h : Conv B B') : Conv (Pair2 A B) (Pair2 A B') := fun w _ x => Pair2.right x fun G y => h w G y
theorem cvLeft (h : Conv A A') : Conv (Pair2 A B) (Pair2 A' B) := (cvSwap.trans (cvRight h)).trans cvSwap
/-- The first two of three change places. -/
theorem cvFlip : Conv (Pair2 A (Pair2 B C)) (Pair2 B (Pair2 A C)) := (cvAssoc'.trans (cvLeft cvSwap)).trans cvAssoc
end
theorem Kept.cv {w0 w : World} {A B : Obj} (h : Kept w0 A w) (c : Conv A B) : Kept w0 B w := h.conv fun F x => c w F x

/-! ### All that the law CellApart keeps -/
/-- What stands beside the cell in the law's world. -/
def OffO (ba bd bc bw bq base half : Nat) (D : Dev) (M : CellM) : Obj := Pair2 (DevO bd D) (Pair2 (Pair2 (QO bw D) (XelO bw bq base half M)) (BlkO ba (WorC bd bc bw bq) 41))
section
variable {R : Obj} {ba bd bc bw bq base half : Nat} {D : Dev} {M : CellM}
theorem OffO.good : Good (OffO ba bd bc bw bq base half D M) := Pair2.good (DevO.good _ _) (Pair2.good (Pair2.good (QO.good _ _) (XelO.good _ _ _ _ _)) (BlkO.good _ _ _))
theorem cvOff : Conv (AllO ba bd bc bw bq base half D M) (Pair2 (CelO bd bc base half M) (OffO ba bd bc bw bq base half D M)) :=
  ((cvSwap.trans cvAssoc).trans (cvLeft cvSwap)).trans cvAssoc
theorem cvOff' : Conv (Pair2 (CelO bd bc base half M) (OffO ba bd bc bw bq base half D M)) (AllO ba bd bc bw bq base half D M) :=
  ((cvAssoc'.trans (cvLeft cvSwap)).trans cvAssoc').trans cvSwap
theorem cvR : Conv (Pair2 (AllO ba bd bc bw bq base half D M) R) (AllR R ba bd bc bw bq base half D M) := cvAssoc.trans (cvRight cvAssoc)
theorem cvR' : Conv (AllR R ba bd bc bw bq base half D M) (Pair2 (AllO ba bd bc bw bq base half D M) R) := (cvRight cvAssoc').trans cvAssoc'
end
/-- Where a world of the law stands. -/
structure Pl where
  ba : Nat
  bd : Nat
  bc : Nat
  bw : Nat
  bq : Nat
def Pl.all (p : Pl) (base half : Nat) (D : Dev) (M : CellM) : Obj := AllO p.ba p.bd p.bc p.bw p.bq base half D M
def Pl.off (p : Pl) (base half : Nat) (D : Dev) (M : CellM) : Obj := OffO p.ba p.bd p.bc p.bw p.bq base half D M
/-- The device with its two cells, and the two worlds. -/
def ApO (p q : Pl) (bd b1 b2 : Nat) (D : Dev) (M1 M2 : CellM) (DB : Dev) (MB : CellM) (DC : Dev) (MC : CellM) : Obj :=
  Pair2 (p.all 0 5 DB MB) (Pair2 (q.all 10 10 DC MC) (Pair2 (DevO bd D) (Pair2 (CelO bd b1 0 5 M1) (CelO bd b2 10 10 M2))))
section
variable {wb w : World} {p q : Pl} {bd b1 b2 : Nat} {D DB DC : Dev} {M1 M2 MB MC : CellM}
theorem goodDev : Good (Pair2 (DevO bd D) (Pair2 (CelO bd b1 0 5 M1) (CelO bd b2 10 10 M2))) := Pair2.good (DevO.good _ _) (Pair2.good (CelO.good _ _ _ _ _) (CelO.good _ _ _ _ _))
theorem ApO.good : Good (ApO p q bd b1 b2 D M1 M2 DB MB DC MC) := Pair2.good (AllO.good _ _ _ _ _ _ _ _ _) (Pair2.good (AllO.good _ _ _ _ _ _ _ _ _) goodDev)
/-- In the order in which one is compared with the first world's cell. -/
theorem cvOne : Conv (ApO p q bd b1 b2 D M1 M2 DB MB DC MC) (AlkO bd b1 0 5 p.bd p.bc 0 5 D M1 MB (Pair2 (p.off 0 5 DB MB) (Pair2 (q.all 10 10 DC MC) (CelO bd b2 10 10 M2)))) := by
  have h1 : Conv (Pair2 (q.all 10 10 DC MC) (Pair2 (DevO bd D) (Pair2 (CelO bd b1 0 5 M1) (CelO bd b2 10 10 M2)))) (Pair2 (Pair2 (DevO bd D) (CelO bd b1 0 5 M1)) (Pair2 (q.all 10 10 DC MC) (CelO bd b2 10 10 M2))) :=
    (cvRight cvAssoc').trans cvFlip
  exact ((cvRight h1).trans cvFlip).trans (cvRight ((cvLeft cvOff).trans cvAssoc))
theorem cvOne' : Conv (AlkO bd b1 0 5 p.bd p.bc 0 5 D M1 MB (Pair2 (p.off 0 5 DB MB) (Pair2 (q.all 10 10 DC MC) (CelO bd b2 10 10 M2)))) (ApO p q bd b1 b2 D M1 M2 DB MB DC MC) := by
  have h1 : Conv (Pair2 (Pair2 (DevO bd D) (CelO bd b1 0 5 M1)) (Pair2 (q.all 10 10 DC MC) (CelO bd b2 10 10 M2))) (Pair2 (q.all 10 10 DC MC) (Pair2 (DevO bd D) (Pair2 (CelO bd b1 0 5 M1) (CelO bd b2 10 10 M2)))) :=
    cvFlip.trans (cvRight cvAssoc)
  exact ((cvRight (cvAssoc'.trans (cvLeft cvOff'))).trans cvFlip).trans (cvRight h1)
/-- In the order in which two is compared with the second world's cell. -/
theorem cvTwo : Conv (ApO p q bd b1 b2 D M1 M2 DB MB DC MC) (AlkO bd b2 10 10 q.bd q.bc 10 10 D M2 MC (Pair2 (q.off 10 10 DC MC) (Pair2 (p.all 0 5 DB MB) (CelO bd b1 0 5 M1)))) := by
  have h1 : Conv (Pair2 (p.all 0 5 DB MB) (Pair2 (DevO bd D) (Pair2 (CelO bd b1 0 5 M1) (CelO bd b2 10 10 M2)))) (Pair2 (Pair2 (DevO bd D) (CelO bd b2 10 10 M2)) (Pair2 (p.all 0 5 DB MB) (CelO bd b1 0 5 M1))) :=
    (cvRight ((cvRight cvSwap).trans cvAssoc')).trans cvFlip
  exact ((cvFlip.trans (cvRight h1)).trans cvFlip).trans (cvRight ((cvLeft cvOff).trans cvAssoc))
theorem cvTwo' : Conv (AlkO bd b2 10 10 q.bd q.bc 10 10 D M2 MC (Pair2 (q.off 10 10 DC MC) (Pair2 (p.all 0 5 DB MB) (CelO bd b1 0 5 M1)))) (ApO p q bd b1 b2 D M1 M2 DB MB DC MC) := by
  have h1 : Conv (Pair2 (Pair2 (DevO bd D) (CelO bd b2 10 10 M2)) (Pair2 (p.all 0 5 DB MB) (CelO bd b1 0 5 M1))) (Pair2 (p.all 0 5 DB MB) (Pair2 (DevO bd D) (Pair2 (CelO bd b1 0 5 M1) (CelO bd b2 10 10 M2)))) :=
    cvFlip.trans (cvRight (cvAssoc.trans (cvRight cvSwap)))
  exact ((cvRight (cvAssoc'.trans (cvLeft cvOff'))).trans cvFlip).trans ((cvRight h1).trans cvFlip)
end
end Go.Proofs.YtoaipjpbioaneaaGreat

namespace Go.Proofs.YtoaipjpbioaneaaGreat
open Go.RowKit Go.Maps

section
variable {X : Obj} {wb w : World} {p q : Pl} {bd b1 b2 : Nat} {D DB DC : Dev} {M1 M2 MB MC : CellM}
/-- All, beside another thing. -/
def ApX (X : Obj) (p q : Pl) (bd b1 b2 : Nat) (D : Dev) (M1 M2 : CellM) (DB : Dev) (MB : CellM) (DC : Dev) (MC : CellM) : Obj := Pair2 X (ApO p q bd b1 b2 D M1 M2 DB MB DC MC)
theorem ApX.good (g : Good X) : Good (ApX X p q bd b1 b2 D M1 M2 DB MB DC MC) := Pair2.good g ApO.good
theorem cvIn {A B R : Obj} : Conv (Pair2 X (Pair2 A (Pair2 B R))) (Pair2 A (Pair2 B (Pair2 R X))) := (cvSwap.trans cvAssoc).trans (cvRight cvAssoc)
theorem cvIn' {A B R : Obj} : Conv (Pair2 A (Pair2 B (Pair2 R X))) (Pair2 X (Pair2 A (Pair2 B R))) := ((cvRight cvAssoc').trans cvAssoc').trans cvSwap
theorem cvB : Conv (ApX X p q bd b1 b2 D M1 M2 DB MB DC MC) (AllR (Pair2 (Pair2 (q.all 10 10 DC MC) (Pair2 (DevO bd D) (Pair2 (CelO bd b1 0 5 M1) (CelO bd b2 10 10 M2)))) X) p.ba p.bd p.bc p.bw p.bq 0 5 DB MB) := (cvSwap.trans cvAssoc).trans cvR
theorem cvB' : Conv (AllR (Pair2 (Pair2 (q.all 10 10 DC MC) (Pair2 (DevO bd D) (Pair2 (CelO bd b1 0 5 M1) (CelO bd b2 10 10 M2)))) X) p.ba p.bd p.bc p.bw p.bq 0 5 DB MB) (ApX X p q bd b1 b2 D M1 M2 DB MB DC MC) := (cvR'.trans cvAssoc').trans cvSwap
theorem cvC : Conv (ApX X p q bd b1 b2 D M1 M2 DB MB DC MC) (AllR (Pair2 (Pair2 (p.all 0 5 DB MB) (Pair2 (DevO bd D) (Pair2 (CelO bd b1 0 5 M1) (CelO bd b2 10 10 M2)))) X) q.ba q.bd q.bc q.bw q.bq 10 10 DC MC) := ((cvRight cvFlip).trans (cvSwap.trans cvAssoc)).trans cvR
theorem cvC' : Conv (AllR (Pair2 (Pair2 (p.all 0 5 DB MB) (Pair2 (DevO bd D) (Pair2 (CelO bd b1 0 5 M1) (CelO bd b2 10 10 M2)))) X) q.ba q.bd q.bc q.bw q.bq 10 10 DC MC) (ApX X p q bd b1 b2 D M1 M2 DB MB DC MC) := ((cvR'.trans cvAssoc').trans cvSwap).trans (cvRight cvFlip)
/-- The goods of what stands beside. -/
theorem goodB (g : Good X) : Good (Pair2 (Pair2 (q.all 10 10 DC MC) (Pair2 (DevO bd D) (Pair2 (CelO bd b1 0 5 M1) (CelO bd b2 10 10 M2)))) X) := Pair2.good (Pair2.good (AllO.good _ _ _ _ _ _ _ _ _) goodDev) g
theorem goodC (g : Good X) : Good (Pair2 (Pair2 (p.all 0 5 DB MB) (Pair2 (DevO bd D) (Pair2 (CelO bd b1 0 5 M1) (CelO bd b2 10 10 M2)))) X) := Pair2.good (Pair2.good (AllO.good _ _ _ _ _ _ _ _ _) goodDev) g
theorem good1 (g : Good X) : Good (Pair2 (Pair2 (p.off 0 5 DB MB) (Pair2 (q.all 10 10 DC MC) (CelO bd b2 10 10 M2))) X) := Pair2.good (Pair2.good OffO.good (Pair2.good (AllO.good _ _ _ _ _ _ _ _ _) (CelO.good _ _ _ _ _))) g
theorem good2 (g : Good X) : Good (Pair2 (Pair2 (q.off 10 10 DC MC) (Pair2 (p.all 0 5 DB MB) (CelO bd b1 0 5 M1))) X) := Pair2.good (Pair2.good OffO.good (Pair2.good (AllO.good _ _ _ _ _ _ _ _ _) (CelO.good _ _ _ _ _))) g
end
theorem WS.onward {base half n i j : Nat} {D : Dev} {M : CellM} (h : WS base half n i D M) (hij : i ≤ j) : WS base half n j D M := ⟨h.snd, h.len, by have := h.t; omega, h.f, by have := h.num; omega⟩
theorem WS.other {base half b2 h2 n i j : Nat} {D D' : Dev} {M M' : CellM} (h' : WS base half n j D' M') (h : WS b2 h2 n i D M) (hij : i ≤ j) (ho : ∀ x, b2 ≤ x → x < b2 + 2 * h2 → D'.safe[x]? = D.safe[x]?) : WS b2 h2 n j D' M :=
  ⟨⟨h'.snd.calm, h.snd.region.congr (by rw [h'.len, h.len]) ho, h.snd.ok, h.snd.off⟩, h'.len, h'.t, h'.f, by have := h.num; omega⟩
/-- How the models stand to one another: each cell is as its world's, sound on the device. -/
structure ApI (j : Nat) (D : Dev) (M1 M2 : CellM) (DB DC : Dev) : Prop where
  one : WS 0 5 30 j D M1
  two : WS 10 10 30 j D M2
  b : WS 0 5 30 j DB M1
  c : WS 10 10 30 j DC M2
section
variable {X : Obj} {wb w : World} {p q : Pl} {bd b1 b2 j : Nat} {D DB DC : Dev} {M1 M2 : CellM} {k : UInt8} {s t : ByteArray} {n : Int} {v : Value}
theorem ApI.stepB (h : ApI j D M1 M2 DB DC) (hj : j ≤ 100) (k : Nat) (s t : Bs) : ApI (j + 1) (stD 0 5 D k M1) (stC 0 5 D k s t M1) M2 (stD 0 5 DB k M1) DC ∧ stC 0 5 DB k s t M1 = stC 0 5 D k s t M1 := by
  obtain ⟨a1, a2, a3⟩ := h.one.next (by decide) hj k s t
  obtain ⟨c1, c2, c3⟩ := h.b.next (by decide) hj k s t
  refine ⟨⟨a1, a1.other h.two (Nat.le_succ _) fun x hx _ => a3 x (.inr (by omega)), ?_, h.c.onward (Nat.le_succ _)⟩, by rw [a2, c2]⟩
  rw [a2, ← c2]; exact c1
theorem ApI.stepC (h : ApI j D M1 M2 DB DC) (hj : j ≤ 100) (k : Nat) (s t : Bs) : ApI (j + 1) (stD 10 10 D k M2) M1 (stC 10 10 D k s t M2) DB (stD 10 10 DC k M2) ∧ stC 10 10 DC k s t M2 = stC 10 10 D k s t M2 := by
  obtain ⟨a1, a2, a3⟩ := h.two.next (by decide) hj k s t
  obtain ⟨c1, c2, c3⟩ := h.c.next (by decide) hj k s t
  refine ⟨⟨a1.other h.one (Nat.le_succ _) fun x _ hx => a3 x (.inl (by omega)), a1, h.b.onward (Nat.le_succ _), ?_⟩, by rw [a2, c2]⟩
  rw [a2, ← c2]; exact c1
theorem ap_b (g : Good X) (h : Kept wb (ApX X p q bd b1 b2 D M1 M2 DB M1 DC M2) w) (hI : ApI j D M1 M2 DB DC) (hj : j ≤ 100) (hk : k.toNat % 10 < 7) (hs : s.size ≤ maxLen) (ht : t.size ≤ maxLen) (x y : Int) :
    Calls Tryz.prog 8 #[.pointer (some ⟨p.ba, 0, none⟩), .agg #[.int .u8 (k.toNat : Int), .string s, .string t, .int .i64 n, v], .int .i64 x, .int .i64 y] w fun e w' => e = .returned (.bool true) ∧ Box (Kept wb (ApX X p q bd b1 b2 D M1 M2 (stD 0 5 DB (k.toNat % 10) M1) (stC 0 5 D (k.toNat % 10) s.data.toList t.data.toList M1) DC M2) w') := by
  have := stepR_all (n := 30) (m := n) (v := v) (goodB g) (h.cv cvB) hI.b (by decide) hj hk hs ht x y
  rw [(hI.stepB hj (k.toNat % 10) s.data.toList t.data.toList).2] at this
  exact this.mono fun e w' ⟨he, hb⟩ => ⟨he, ⟨hb.out.cv cvB'⟩⟩
theorem ap_c (g : Good X) (h : Kept wb (ApX X p q bd b1 b2 D M1 M2 DB M1 DC M2) w) (hI : ApI j D M1 M2 DB DC) (hj : j ≤ 100) (hk : k.toNat % 10 < 7) (hs : s.size ≤ maxLen) (ht : t.size ≤ maxLen) (x y : Int) :
    Calls Tryz.prog 8 #[.pointer (some ⟨q.ba, 0, none⟩), .agg #[.int .u8 (k.toNat : Int), .string s, .string t, .int .i64 n, v], .int .i64 x, .int .i64 y] w fun e w' => e = .returned (.bool true) ∧ Box (Kept wb (ApX X p q bd b1 b2 D M1 M2 DB M1 (stD 10 10 DC (k.toNat % 10) M2) (stC 10 10 D (k.toNat % 10) s.data.toList t.data.toList M2)) w') := by
  have := stepR_all (n := 30) (m := n) (v := v) (goodC g) (h.cv cvC) hI.c (by decide) hj hk hs ht x y
  rw [(hI.stepC hj (k.toNat % 10) s.data.toList t.data.toList).2] at this
  exact this.mono fun e w' ⟨he, hb⟩ => ⟨he, ⟨hb.out.cv cvC'⟩⟩
theorem ap_one (g : Good X) {MB : CellM} {DB' : Dev} (h : Kept wb (ApX X p q bd b1 b2 D M1 M2 DB' MB DC M2) w) (hI : ApI j D M1 M2 DB DC) (hj : j ≤ 100) (hk : k.toNat % 10 < 7) (hs : s.size ≤ maxLen) (ht : t.size ≤ maxLen) (hM : stC 0 5 D (k.toNat % 10) s.data.toList t.data.toList M1 = MB) :
    Calls Tryz.prog 15 #[.pointer (some ⟨b1, 0, none⟩), .agg #[.int .u8 (k.toNat : Int), .string s, .string t, .int .i64 n, v], .pointer (some ⟨p.bc, 0, none⟩)] w fun e w' => e = .returned (.bool true) ∧ Box (Kept wb (ApX X p q bd b1 b2 (stD 0 5 D (k.toNat % 10) M1) MB M2 DB' MB DC M2) w') := by
  have h1 := (h.cv (cvRight cvOne)).cv cvIn
  have ht' := hI.one.t
  have hn' := hI.one.num
  have hf := hI.one.f
  have := alike_all (n := n) (v := v) (good1 g) h1 hk hs ht (by omega) (by omega) (by rw [hI.one.snd.calm.ws]; exact Nat.zero_le _) (by omega) (by rw [hM]) (by rw [hM])
  rw [hM] at this
  exact this.mono fun e w' ⟨he, hb⟩ => ⟨he, ⟨(hb.out.cv cvIn').cv (cvRight cvOne')⟩⟩
theorem ap_two (g : Good X) {MC : CellM} {DC' : Dev} (h : Kept wb (ApX X p q bd b1 b2 D M1 M2 DB M1 DC' MC) w) (hI : ApI j D M1 M2 DB DC) (hj : j ≤ 100) (hk : k.toNat % 10 < 7) (hs : s.size ≤ maxLen) (ht : t.size ≤ maxLen) (hM : stC 10 10 D (k.toNat % 10) s.data.toList t.data.toList M2 = MC) :
    Calls Tryz.prog 15 #[.pointer (some ⟨b2, 0, none⟩), .agg #[.int .u8 (k.toNat : Int), .string s, .string t, .int .i64 n, v], .pointer (some ⟨q.bc, 0, none⟩)] w fun e w' => e = .returned (.bool true) ∧ Box (Kept wb (ApX X p q bd b1 b2 (stD 10 10 D (k.toNat % 10) M2) M1 MC DB M1 DC' MC) w') := by
  have h1 := (h.cv (cvRight cvTwo)).cv cvIn
  have ht' := hI.two.t
  have hn' := hI.two.num
  have hf := hI.two.f
  have := alike_all (n := n) (v := v) (good2 g) h1 hk hs ht (by omega) (by omega) (by rw [hI.two.snd.calm.ws]; exact Nat.zero_le _) (by omega) (by rw [hM]) (by rw [hM])
  rw [hM] at this
  exact this.mono fun e w' ⟨he, hb⟩ => ⟨he, ⟨(hb.out.cv cvIn').cv (cvRight cvTwo')⟩⟩
end
end Go.Proofs.YtoaipjpbioaneaaGreat

namespace Go.Proofs.YtoaipjpbioaneaaGreat
open Go.RowKit Go.Maps

theorem Kept.store {w0 w : World} {b : Nat} {cs : List Value} {t : TypeId} {O : Obj} (g : Good O) (h : Kept w0 (Pair2 (BlkO b cs t) O) w) (i : Nat) (v : Value) : Kept w0 (Pair2 (BlkO b (cs.set i v) t) O) (w.setCell ⟨b, i, none⟩ v) := by
  obtain ⟨F, ⟨F1, F2, h1, h2, h3, h4, h5, h6⟩, h7, h8⟩ := h
  have hC : Chg (fun k => k = b) w (w.setCell ⟨b, i, none⟩ v) := (Chg.refl (fun k => k = b) w).setCell (p := ⟨b, i, none⟩) rfl v
  have hb : w0.heap.size ≤ b := h7 b (h4 b h1.2.1)
  refine ⟨F, ⟨F1, F2, ⟨h1.1.setCell i v, h1.2.1, fun k hk => Nat.lt_of_lt_of_le (h1.2.2 k hk) hC.size⟩, g.chg h2 hC (fun k hk e => ?_), h3, h4, h5, fun k hk => Nat.lt_of_lt_of_le (h6 k hk) hC.size⟩, h7, h8.trans (hC.below h8.size fun k hk => ?_)⟩
  · have e' : k = b := e
    exact h3 b h1.2.1 (e' ▸ hk)
  · have e' : k = b := hk
    omega
/-- A world begun, not yet opened. -/
def RawO (ba bd bw n : Nat) : Obj := Pair2 (BlkO ba (WorldCells bd bw none none) 41) (Pair2 (DevO bd (Dev.new n)) (QO bw (Dev.new n)))
theorem RawO.good {ba bd bw n : Nat} : Good (RawO ba bd bw n) := Pair2.good (BlkO.good _ _ _) (Pair2.good (DevO.good _ _) (QO.good _ _))
/-- What has just been begun is so. -/
theorem raw_of {w w2 : World} {ba bd bw n : Nat} {F G : Nat → Prop} (hba : w.heap.size ≤ ba) (hbl : Blk w2 ba (WorldCells bd bw none none) 41) (hD : DAt w2 bd F (Dev.new n)) (hQ : QAt w2 bw G (Dev.new n)) (hF : ∀ k, F k → w.heap.size ≤ k ∧ k ≠ ba) (hG : ∀ k, G k → w.heap.size ≤ k ∧ k ≠ ba ∧ ¬ F k) :
    ∃ H, RawO ba bd bw n w2 H ∧ ∀ k, H k → w.heap.size ≤ k := by
  have lD := (DevO.good bd (Dev.new n)).lt hD
  have lQ := (QO.good bw (Dev.new n)).lt hQ
  have lb := hbl.lt
  refine ⟨fun k => k = ba ∨ F k ∨ G k, ⟨fun k => k = ba, fun k => F k ∨ G k, ⟨hbl, rfl, fun k hk => by have hk' : k = ba := hk; omega⟩, ⟨F, G, hD, hQ, fun k hk hk2 => (hG k hk2).2.2 hk, fun _ => .inl, fun _ => .inr, fun k hk => hk.elim (lD k) (lQ k)⟩, fun k hk hk2 => ?_, fun _ => .inl, fun _ => .inr, fun k hk => ?_⟩, fun k hk => ?_⟩
  · have hk' : k = ba := hk
    rcases hk2 with hk2 | hk2
    · exact (hF k hk2).2 hk'
    · exact (hG k hk2).2.1 hk'
  · rcases hk with hk | hk | hk
    · omega
    · exact lD k hk
    · exact lQ k hk
  · rcases hk with hk | hk | hk
    · omega
    · exact (hF k hk).1
    · exact (hG k hk).1
section
variable {R : Obj} {w0 w : World} {ba bd bw n base half : Nat}
theorem cvRaw : Conv (Pair2 (RawO ba bd bw n) R) (Pair2 (DevO bd (Dev.new n)) (Pair2 (QO bw (Dev.new n)) (Pair2 R (BlkO ba (WorldCells bd bw none none) 41)))) :=
  (cvAssoc.trans (cvSwap.trans cvAssoc)).trans cvAssoc
theorem cvMade {A Q B X : Obj} : Conv (Pair2 (Pair2 A (Pair2 Q (Pair2 R B))) X) (Pair2 B (Pair2 A (Pair2 (Pair2 Q X) R))) :=
  (cvSwap.trans cvFlip).trans ((cvRight ((((cvFlip.trans cvAssoc').trans (cvRight cvSwap)).trans cvFlip))).trans cvFlip)
theorem Kept.rawB (h : Kept w0 (Pair2 (RawO ba bd bw n) R) w) : Blk w ba (WorldCells bd bw none none) 41 := by
  obtain ⟨F, ⟨_, _, ⟨_, _, h1, _⟩, _⟩, _⟩ := h
  exact h1.1
theorem Kept.madeB {A Q : Obj} {cs : List Value} {t : TypeId} (h : Kept w0 (Pair2 A (Pair2 Q (Pair2 R (BlkO ba cs t)))) w) : Blk w ba cs t := by
  obtain ⟨F, ⟨_, _, _, ⟨_, _, _, ⟨_, _, _, h1, _⟩, _⟩, _⟩, _⟩ := h
  exact h1.1
theorem Kept.madeQ {A B : Obj} {D : Dev} (h : Kept w0 (Pair2 A (Pair2 (QO bw D) B)) w) : ∃ G, QAt w bw G D := by
  obtain ⟨F, ⟨_, _, _, ⟨G, _, h1, _⟩, _⟩, _⟩ := h
  exact ⟨G, h1⟩
set_option maxHeartbeats 3200000 in
set_option maxRecDepth 100000 in
theorem open_ap (g : Good R) (h : Kept w0 (Pair2 (RawO ba bd bw n) R) w) (hn : n ≤ 4096) (h2 : 2 ≤ half) (hin : base + 2 * half ≤ n) :
    Calls Tryz.prog 7 #[.pointer (some ⟨ba, 0, none⟩), .int .i64 (base : Int), .int .i64 (half : Int)] w fun e w' => e = .returned (.bool true) ∧ Box (∃ bc bq, Kept w0 (Pair2 (AllO ba bd bc bw bq base half (Dev.new n) M0) R) w') := by
  have d0 : w.cell? ⟨ba, 0, none⟩ = some (.pointer (some ⟨bd, 0, none⟩)) := h.rawB.cell 0
  have s0 := Sound.new n base half hn h2 hin
  have hO := Box.mk ((h.cv cvRaw).opens (base := base) (half := half) (Pair2.good (QO.good _ _) (Pair2.good g (BlkO.good _ _ _))) M0 rfl h2 (by rw [new_len]; omega) s0.opens rfl rfl s0.ok)
  have hX := fun w1 G (hQ : QAt w1 bw G (Dev.new n)) => Box.mk (xopen_zero bw G (Dev.new n) base half w1 hQ h2 (by rw [new_len]; omega) rfl (Nat.zero_le _) (fun i => by rw [seen_calm (Calm.new n hn)]; exact new_zero n i))
  have hok := Box.mk s0.ok
  replace hX := Box.mk hX
  replace g := Box.mk g
  clear s0 h
  go_enter Tryz.func7, Tryz.ntmps7
  go_wp2_with fail
  refine hO.out.mono ?_
  rintro e w1 ⟨bc, rfl, hk1⟩
  have d2 : w1.cell? ⟨ba, 2, none⟩ = some (.pointer (some ⟨bw, 0, none⟩)) := hk1.out.madeB.cell 2
  obtain ⟨G, hQ⟩ := hk1.out.madeQ
  have hX1 := hX.out w1 G hQ
  clear hO d0 hX hQ
  go_wp2_with fail
  refine hX1.out.mono ?_
  rintro e w2 ⟨bq, rfl, hbq, hbq1, hB2⟩
  have hbq4 : Blk w2 bq [.pointer (some ⟨bw, 0, none⟩), .int .i64 (base : Int), .int .i64 (half : Int), .slice none 0 0, .slice none 0 0, .int .i64 (M0.num : Int), .int .i64 (M0.last : Int), .bool M0.off] 36 := hbq
  have hq2 : XelO bw bq base half M0 w2 (fun k => k = bq) := ⟨hok.out, ⟨Value.slice none 0 0, Value.slice none 0 0, hbq4, Row.nil w2 _ _, Row.nil w2 _ _, (fun k hk => by simp [Value.ownBlock] at hk), (fun k hk => by simp [Value.ownBlock] at hk)⟩, rfl, fun k hk => by have := hbq4.lt; omega⟩
  have hk2 := (hk1.out.add (Pair2.good (Pair2.good (DevO.good _ _) (CelO.good _ _ _ _ _)) (Pair2.good (QO.good _ _) (Pair2.good g.out (BlkO.good _ _ _)))) hB2 hq2 (XelO.good _ _ _ _ _) (fun k hk => by omega)).cv cvMade
  have gT : Good (Pair2 (Pair2 (DevO bd (Dev.new n)) (CelO bd bc base half M0)) (Pair2 (Pair2 (QO bw (Dev.new n)) (XelO bw bq base half M0)) R)) := Pair2.good (Pair2.good (DevO.good _ _) (CelO.good _ _ _ _ _)) (Pair2.good (Pair2.good (QO.good _ _) (XelO.good _ _ _ _ _)) g.out)
  have hbk := hk2.blk
  have d1 : w2.cell? ⟨ba, 1, none⟩ = some (.pointer none) := hbk.cell 1
  have d3 : (w2.setCell ⟨ba, 1, none⟩ (.pointer (some ⟨bc, 0, none⟩))).cell? ⟨ba, 3, none⟩ = some (.pointer none) := (hbk.setCell 1 (.pointer (some ⟨bc, 0, none⟩))).cell 3
  have f1 := hbk.free 1
  have f3 := (hbk.setCell 1 (.pointer (some ⟨bc, 0, none⟩))).free 3
  have hk3 := (hk2.store gT 1 (.pointer (some ⟨bc, 0, none⟩))).store gT 3 (.pointer (some ⟨bq, 0, none⟩))
  have hfin : Box (∃ cc cq, Kept w0 (Pair2 (AllO ba bd cc bw cq base half (Dev.new n) M0) R) ((w2.setCell ⟨ba, 1, none⟩ (.pointer (some ⟨bc, 0, none⟩))).setCell ⟨ba, 3, none⟩ (.pointer (some ⟨bq, 0, none⟩)))) := ⟨bc, bq, (show Kept w0 (AllR R ba bd bc bw bq base half (Dev.new n) M0) _ from hk3).cv cvR'⟩
  clear hX1 hB2 hk2 hk3 hbk d2 hbq hk1 hbq4 hq2 gT
  go_wp2_with fail
  go_returns
  exact ⟨rfl, hfin⟩
end
end Go.Proofs.YtoaipjpbioaneaaGreat

namespace Go.Proofs.YtoaipjpbioaneaaGreat
open Go.RowKit Go.Maps

section
variable {R : Obj} {w0 w : World} {n : Nat}
theorem begun_first (h1 : 1 ≤ n) (h2 : n ≤ 4096) :
    Calls Tryz.prog 6 #[.int .i64 (n : Int)] w fun e w' => ∃ ba bd bw, e = .returned (.pointer (some ⟨ba, 0, none⟩)) ∧ Box (Kept w (RawO ba bd bw n) w') :=
  (begun04_fit n w h1 h2).mono fun e w' ⟨ba, bd, bw, F, G, he, hbl, hba, hD, hQ, hF, hG, hb⟩ => ⟨ba, bd, bw, he, ⟨by
    obtain ⟨H, x1, x2⟩ := raw_of hba hbl hD hQ (fun k hk => ⟨(hF k hk).1, (hF k hk).2.2⟩) hG
    exact ⟨H, x1, x2, hb⟩⟩⟩
theorem begun_ap (g : Good R) (h : Kept w0 R w) (h1 : 1 ≤ n) (h2 : n ≤ 4096) :
    Calls Tryz.prog 6 #[.int .i64 (n : Int)] w fun e w' => ∃ ba bd bw, e = .returned (.pointer (some ⟨ba, 0, none⟩)) ∧ Box (Kept w0 (Pair2 R (RawO ba bd bw n)) w') :=
  (begun04_fit n w h1 h2).mono fun e w' ⟨ba, bd, bw, F, G, he, hbl, hba, hD, hQ, hF, hG, hb⟩ => ⟨ba, bd, bw, he, ⟨by
    obtain ⟨H, x1, x2⟩ := raw_of hba hbl hD hQ (fun k hk => ⟨(hF k hk).1, (hF k hk).2.2⟩) hG
    exact h.add g hb x1 RawO.good x2⟩⟩
end
/-- What stays of the first world beside its device: its block and the document's device. -/
def HeadO (ba bd bw : Nat) : Obj := Pair2 (BlkO ba (WorldCells bd bw none none) 41) (QO bw (Dev.new 30))
theorem HeadO.good {ba bd bw : Nat} : Good (HeadO ba bd bw) := Pair2.good (BlkO.good _ _ _) (QO.good _ _)
section
variable {w0 w : World} {ba bd bw b1 b2 : Nat} {D : Dev} {M : CellM}
theorem cvHead : Conv (RawO ba bd bw 30) (Pair2 (DevO bd (Dev.new 30)) (HeadO ba bd bw)) := cvFlip
/-- The device with its two cells, beside the head. -/
def DuoO (ba bd bw b1 b2 : Nat) : Obj := Pair2 (Pair2 (DevO bd (Dev.new 30)) (CelO bd b2 10 10 M0)) (Pair2 (CelO bd b1 0 5 M0) (HeadO ba bd bw))
theorem DuoO.good : Good (DuoO ba bd bw b1 b2) := Pair2.good (Pair2.good (DevO.good _ _) (CelO.good _ _ _ _ _)) (Pair2.good (CelO.good _ _ _ _ _) HeadO.good)
theorem duo_one (h : Kept w0 (RawO ba bd bw 30) w) :
    Calls Tryz.prog 13 #[.pointer (some ⟨bd, 0, none⟩), .int .i64 0, .int .i64 5] w fun e w' => ∃ b1, e = .returned (.tuple #[.pointer (some ⟨b1, 0, none⟩), .int .i64 0]) ∧ Box (Kept w0 (Pair2 (DevO bd (Dev.new 30)) (Pair2 (CelO bd b1 0 5 M0) (HeadO ba bd bw))) w') := by
  have s0 := Sound.new 30 0 5 (by decide) (by decide) (by decide)
  exact ((h.cv cvHead).opens (base := 0) (half := 5) HeadO.good M0 rfl (by decide) (by rw [new_len]; decide) s0.opens rfl rfl s0.ok).mono fun e w' ⟨b, he, hk⟩ => ⟨b, he, ⟨hk.out.cv cvAssoc⟩⟩
theorem duo_two (h : Kept w0 (Pair2 (DevO bd (Dev.new 30)) (Pair2 (CelO bd b1 0 5 M0) (HeadO ba bd bw))) w) :
    Calls Tryz.prog 13 #[.pointer (some ⟨bd, 0, none⟩), .int .i64 10, .int .i64 10] w fun e w' => ∃ b2, e = .returned (.tuple #[.pointer (some ⟨b2, 0, none⟩), .int .i64 0]) ∧ Box (Kept w0 (DuoO ba bd bw b1 b2) w') := by
  have s0 := Sound.new 30 10 10 (by decide) (by decide) (by decide)
  exact h.opens (base := 10) (half := 10) (Pair2.good (CelO.good _ _ _ _ _) HeadO.good) M0 rfl (by decide) (by rw [new_len]; decide) s0.opens rfl rfl s0.ok
/-- Both worlds begun, then one opened, then both. -/
theorem cvFirst {A B C : Obj} : Conv (Pair2 (Pair2 A B) C) (Pair2 B (Pair2 A C)) := (cvLeft cvSwap).trans cvAssoc
theorem cvSecond {A B C : Obj} : Conv (Pair2 A (Pair2 B C)) (Pair2 C (Pair2 A B)) := (cvRight cvSwap).trans cvFlip
theorem cvAp {p q : Pl} {DB DC : Dev} {MB MC : CellM} : Conv (Pair2 (q.all 10 10 DC MC) (Pair2 (p.all 0 5 DB MB) (DuoO ba bd bw b1 b2))) (ApX (HeadO ba bd bw) p q bd b1 b2 (Dev.new 30) M0 M0 DB MB DC MC) := by
  have hY : Conv (DuoO ba bd bw b1 b2) (Pair2 (HeadO ba bd bw) (Pair2 (DevO bd (Dev.new 30)) (Pair2 (CelO bd b1 0 5 M0) (CelO bd b2 10 10 M0)))) :=
    (cvAssoc'.trans cvSwap).trans (cvRight (cvAssoc.trans (cvRight cvSwap)))
  exact (cvFlip.trans (cvRight (cvRight hY))).trans ((cvRight cvFlip).trans cvFlip)
theorem ApI.start : ApI 0 (Dev.new 30) M0 M0 (Dev.new 30) (Dev.new 30) := by
  have h1 : WS 0 5 30 0 (Dev.new 30) M0 := ⟨Sound.new 30 0 5 (by decide) (by decide) (by decide), new_len 30, Nat.zero_le _, rfl, Nat.le_refl _⟩
  have h2 : WS 10 10 30 0 (Dev.new 30) M0 := ⟨Sound.new 30 10 10 (by decide) (by decide) (by decide), new_len 30, Nat.zero_le _, rfl, Nat.le_refl _⟩
  exact ⟨h1, h2, h1, h2⟩
end
end Go.Proofs.YtoaipjpbioaneaaGreat

namespace Go.Proofs.YtoaipjpbioaneaaGreat
open Go.RowKit Go.Maps

/-- Both cells opened anew on the device, beside all the rest. -/
def EndO (X : Obj) (p q : Pl) (bd b1 b2 c1 c2 : Nat) (D : Dev) (M1 M2 : CellM) (DB DC : Dev) : Obj :=
  Pair2 (Pair2 (DevO bd D) (CelO bd c2 10 10 { M2 with now := M2.was })) (Pair2 (CelO bd c1 0 5 { M1 with now := M1.was }) (Pair2 X (Pair2 (p.all 0 5 DB M1) (Pair2 (q.all 10 10 DC M2) (Pair2 (CelO bd b1 0 5 M1) (CelO bd b2 10 10 M2))))))
section
variable {X : Obj} {wb w : World} {p q : Pl} {bd b1 b2 c1 c2 j : Nat} {D DB DC : Dev} {M1 M2 : CellM}
theorem goodRest (g : Good X) : Good (Pair2 X (Pair2 (p.all 0 5 DB M1) (Pair2 (q.all 10 10 DC M2) (Pair2 (CelO bd b1 0 5 M1) (CelO bd b2 10 10 M2))))) := Pair2.good g (Pair2.good (AllO.good _ _ _ _ _ _ _ _ _) (Pair2.good (AllO.good _ _ _ _ _ _ _ _ _) (Pair2.good (CelO.good _ _ _ _ _) (CelO.good _ _ _ _ _))))
theorem EndO.good (g : Good X) : Good (EndO X p q bd b1 b2 c1 c2 D M1 M2 DB DC) := Pair2.good (Pair2.good (DevO.good _ _) (CelO.good _ _ _ _ _)) (Pair2.good (CelO.good _ _ _ _ _) (goodRest g))
theorem cvDev : Conv (ApX X p q bd b1 b2 D M1 M2 DB M1 DC M2) (Pair2 (DevO bd D) (Pair2 X (Pair2 (p.all 0 5 DB M1) (Pair2 (q.all 10 10 DC M2) (Pair2 (CelO bd b1 0 5 M1) (CelO bd b2 10 10 M2)))))) :=
  (cvRight ((cvRight cvFlip).trans cvFlip)).trans cvFlip
theorem end_one (g : Good X) (h : Kept wb (ApX X p q bd b1 b2 D M1 M2 DB M1 DC M2) w) (hI : ApI j D M1 M2 DB DC) :
    Calls Tryz.prog 13 #[.pointer (some ⟨bd, 0, none⟩), .int .i64 0, .int .i64 5] w fun e w' => ∃ c1, e = .returned (.tuple #[.pointer (some ⟨c1, 0, none⟩), .int .i64 0]) ∧ Box (Kept wb (Pair2 (DevO bd D) (Pair2 (CelO bd c1 0 5 { M1 with now := M1.was }) (Pair2 X (Pair2 (p.all 0 5 DB M1) (Pair2 (q.all 10 10 DC M2) (Pair2 (CelO bd b1 0 5 M1) (CelO bd b2 10 10 M2))))))) w') :=
  ((h.cv cvDev).opens (base := 0) (half := 5) (goodRest g) { M1 with now := M1.was } hI.one.snd.calm.off (by decide) (by rw [hI.one.len]; decide) hI.one.snd.opens rfl hI.one.snd.off (hI.one.snd.now hI.one.snd.ok.was).ok).mono fun e w' ⟨b, he, hk⟩ => ⟨b, he, ⟨hk.out.cv cvAssoc⟩⟩
theorem end_two (g : Good X) (h : Kept wb (Pair2 (DevO bd D) (Pair2 (CelO bd c1 0 5 { M1 with now := M1.was }) (Pair2 X (Pair2 (p.all 0 5 DB M1) (Pair2 (q.all 10 10 DC M2) (Pair2 (CelO bd b1 0 5 M1) (CelO bd b2 10 10 M2))))))) w) (hI : ApI j D M1 M2 DB DC) :
    Calls Tryz.prog 13 #[.pointer (some ⟨bd, 0, none⟩), .int .i64 10, .int .i64 10] w fun e w' => ∃ c2, e = .returned (.tuple #[.pointer (some ⟨c2, 0, none⟩), .int .i64 0]) ∧ Box (Kept wb (EndO X p q bd b1 b2 c1 c2 D M1 M2 DB DC) w') :=
  h.opens (base := 10) (half := 10) (Pair2.good (CelO.good _ _ _ _ _) (goodRest g)) { M2 with now := M2.was } hI.two.snd.calm.off (by decide) (by rw [hI.two.len]; decide) hI.two.snd.opens rfl hI.two.snd.off (hI.two.snd.now hI.two.snd.ok.was).ok
/-- What the law reads at the end of a world. -/
theorem all_reads {R A B : Obj} {ba bd bc bw bq base half : Nat} {D : Dev} {M : CellM} (h : Kept wb (Pair2 A (Pair2 B (Pair2 (AllO ba bd bc bw bq base half D M) R))) w) : w.cell? ⟨ba, 3, none⟩ = some (.pointer (some ⟨bq, 0, none⟩)) ∧ ∃ v, w.cell? ⟨bq, 4, none⟩ = some v ∧ Row w 92 2 v M.was.length (pcs M.was) := by
  obtain ⟨F, ⟨_, _, _, ⟨_, _, _, ⟨_, _, ⟨_, _, hW, ⟨_, _, _, ⟨_, _, _, hX, _⟩, _⟩, _⟩, _⟩, _⟩, _⟩, _⟩ := h
  obtain ⟨vn, vw, hb, hn, hw, o1, o2⟩ := hX.out
  exact ⟨hW.1.cell 3, vw, hb.cell 4, hw⟩
theorem cvReadB : Conv (EndO X p q bd b1 b2 c1 c2 D M1 M2 DB DC) (Pair2 (Pair2 (DevO bd D) (CelO bd c2 10 10 { M2 with now := M2.was })) (Pair2 (Pair2 (CelO bd c1 0 5 { M1 with now := M1.was }) X) (Pair2 (p.all 0 5 DB M1) (Pair2 (q.all 10 10 DC M2) (Pair2 (CelO bd b1 0 5 M1) (CelO bd b2 10 10 M2)))))) := cvRight cvAssoc'
theorem cvReadC : Conv (EndO X p q bd b1 b2 c1 c2 D M1 M2 DB DC) (Pair2 (Pair2 (DevO bd D) (CelO bd c2 10 10 { M2 with now := M2.was })) (Pair2 (Pair2 (Pair2 (CelO bd c1 0 5 { M1 with now := M1.was }) X) (p.all 0 5 DB M1)) (Pair2 (q.all 10 10 DC M2) (Pair2 (CelO bd b1 0 5 M1) (CelO bd b2 10 10 M2))))) := cvReadB.trans (cvRight cvAssoc')
theorem end_same1 (g : Good X) (h : Kept wb (EndO X p q bd b1 b2 c1 c2 D M1 M2 DB DC) w) (hok : M1.was.ok) {v : Value} (hr : Row w 92 2 v M1.was.length (pcs M1.was)) :
    Calls Tryz.prog 14 #[.pointer (some ⟨c1, 0, none⟩), v] w fun e w' => e = .returned (.bool true) ∧ Box (Kept wb (EndO X p q bd b1 b2 c1 c2 D M1 M2 DB DC) w') := by
  obtain ⟨G, hC⟩ : ∃ G, CelO bd c1 0 5 { M1 with now := M1.was } w G := by
    obtain ⟨F, ⟨_, _, _, ⟨G, _, h1, _⟩, _⟩, _⟩ := h
    exact ⟨G, h1⟩
  have := same_go bd c1 0 5 { M1 with now := M1.was } G v M1.was w hC hr hok
  rw [show decide (({ M1 with now := M1.was } : CellM).now = M1.was) = true from decide_eq_true rfl] at this
  exact this.mono fun e w' ⟨he, hb⟩ => ⟨he, ⟨h.below (EndO.good g) hb.out⟩⟩
theorem end_same2 (g : Good X) (h : Kept wb (EndO X p q bd b1 b2 c1 c2 D M1 M2 DB DC) w) (hok : M2.was.ok) {v : Value} (hr : Row w 92 2 v M2.was.length (pcs M2.was)) :
    Calls Tryz.prog 14 #[.pointer (some ⟨c2, 0, none⟩), v] w fun e w' => e = .returned (.bool true) ∧ Box (Kept wb (EndO X p q bd b1 b2 c1 c2 D M1 M2 DB DC) w') := by
  obtain ⟨G, hC⟩ : ∃ G, CelO bd c2 10 10 { M2 with now := M2.was } w G := by
    obtain ⟨F, ⟨_, _, ⟨_, G, _, h1, _⟩, _⟩, _⟩ := h
    exact ⟨G, h1⟩
  have := same_go bd c2 10 10 { M2 with now := M2.was } G v M2.was w hC hr hok
  rw [show decide (({ M2 with now := M2.was } : CellM).now = M2.was) = true from decide_eq_true rfl] at this
  exact this.mono fun e w' ⟨he, hb⟩ => ⟨he, ⟨h.below (EndO.good g) hb.out⟩⟩
end
end Go.Proofs.YtoaipjpbioaneaaGreat
