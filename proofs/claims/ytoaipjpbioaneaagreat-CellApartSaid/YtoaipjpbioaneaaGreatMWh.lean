/- The law's two worlds side by side: a cell and the document's, with the same model; a step. | same: has a cell just these names and texts? | Operations that came in; a world begun and opened. | Steps of the law's world on a sound cell. | CellWhole behind its loop: the commit that the power may cut off, the crash, the opening. | CellWhole after its second opening: the opened cell beside the old one. -/
import Derived.Test.YtoaipjpbioaneaaGreatMXb
import Derived.Test.YtoaipjpbioaneaaGreatMCn
namespace Go.Proofs.YtoaipjpbioaneaaGreat
open Go.RowKit Go.Maps

/-- A block of cells. -/
def BlkO (b : Nat) (cs : List Value) (t : TypeId) : Obj := fun w F => Blk w b cs t ∧ F b ∧ ∀ k, F k → k < w.heap.size
theorem BlkO.good (b : Nat) (cs : List Value) (t : TypeId) : Good (BlkO b cs t) where
  lt := fun h => h.2.2
  chg := fun h hc hn => ⟨hc.blk h.1 (hn _ h.2.1), h.2.1, fun k hk => Nat.lt_of_lt_of_le (h.2.2 k hk) hc.size⟩
  wide := fun h hG hl => ⟨h.1, hG _ h.2.1, hl⟩
theorem Pair2.right {A B B' : Obj} {w : World} {F : Nat → Prop} (h : Pair2 A B w F) (f : ∀ G, B w G → B' w G) : Pair2 A B' w F := by
  obtain ⟨F1, F2, h1, h2, h3⟩ := h
  exact ⟨F1, F2, h1, f _ h2, h3⟩
theorem Pair2.drop {A B C : Obj} {w : World} {F : Nat → Prop} (h : Pair2 (Pair2 A B) C w F) : Pair2 A C w F := by
  obtain ⟨F1, F2, ⟨G1, G2, a1, a2, a3, a4, a5, a6⟩, h2, h3, h4, h5, h6⟩ := h
  exact ⟨G1, F2, a1, h2, fun k hk => h3 k (a4 k hk), fun k hk => h4 k (a4 k hk), h5, h6⟩
theorem Kept.blk {w0 w : World} {b : Nat} {cs : List Value} {t : TypeId} {O : Obj} (h : Kept w0 (Pair2 (BlkO b cs t) O) w) : Blk w b cs t := by
  obtain ⟨F, ⟨F1, F2, h1, _⟩, _⟩ := h
  exact h1.1
theorem Kept.blk2 {w0 w : World} {a b : Nat} {ca cb : List Value} {ta tb : TypeId} {O : Obj} (h : Kept w0 (Pair2 (Pair2 (BlkO a ca ta) (BlkO b cb tb)) O) w) : Blk w a ca ta ∧ Blk w b cb tb := by
  obtain ⟨F, ⟨F1, F2, ⟨G1, G2, a1, a2, _⟩, _⟩, _⟩ := h
  exact ⟨a1.1, a2.1⟩
/-- The cell on its device and the document's. -/
def TwoO (bd bc bw bq base half : Nat) (D : Dev) (M : CellM) : Obj := Pair2 (Pair2 (DevO bd D) (CelO bd bc base half M)) (Pair2 (QO bw D) (XelO bw bq base half M))
theorem TwoO.good (bd bc bw bq base half : Nat) (D : Dev) (M : CellM) : Good (TwoO bd bc bw bq base half D M) := Pair2.good (Pair2.good (DevO.good _ _) (CelO.good _ _ _ _ _)) (Pair2.good (QO.good _ _) (XelO.good _ _ _ _ _))
def WorC (bd bc bw bq : Nat) : List Value := WorldCells bd bw (some ⟨bc, 0, none⟩) (some ⟨bq, 0, none⟩)
/-- The law's world with all that it points to. -/
def AllO (ba bd bc bw bq base half : Nat) (D : Dev) (M : CellM) : Obj := Pair2 (BlkO ba (WorC bd bc bw bq) 41) (TwoO bd bc bw bq base half D M)
def AllP (ba bo bd bc bw bq base half : Nat) (co : List Value) (D : Dev) (M : CellM) : Obj := Pair2 (Pair2 (BlkO ba (WorC bd bc bw bq) 41) (BlkO bo co 31)) (TwoO bd bc bw bq base half D M)
theorem AllO.good (ba bd bc bw bq base half : Nat) (D : Dev) (M : CellM) : Good (AllO ba bd bc bw bq base half D M) := Pair2.good (BlkO.good _ _ _) (TwoO.good _ _ _ _ _ _ _ _)
theorem Kept.box {w0 w : World} {ba bd bc bw bq base half : Nat} {D : Dev} {M : CellM} (h : Kept w0 (AllO ba bd bc bw bq base half D M) w) (co : List Value) : Kept w0 (AllP ba w.heap.size bd bc bw bq base half co D M) (w.alloc (.cells co.toArray 31)) := by
  have h1 : Kept w0 (Pair2 (AllO ba bd bc bw bq base half D M) (BlkO w.heap.size co 31)) (w.alloc (.cells co.toArray 31)) :=
    h.add (AllO.good _ _ _ _ _ _ _ _ _) ((Below.refl _ _).alloc (Nat.le_refl _) _) (G := fun k => k = w.heap.size) ⟨Blk.new w co _, rfl, fun k hk => by simp [hk]⟩ (BlkO.good _ _ _) (fun k hk => by omega)
  exact h1.conv fun F h => Pair2.assoc' (Pair2.right (Pair2.assoc h) fun _ hx => hx.swap)

/-! ### A step -/
/-- A call of the program's cell, of the document's: beside all. -/
theorem Does.one {wb : World} {ba bo bd bc bw bq base half : Nat} {co : List Value} {f : FuncId} {args : Array Value} {v : Value} {D D' : Dev} {M M' : CellM} (h : Does f args (Pair2 (DevO bd D) (CelO bd bc base half M)) (RetE v (Pair2 (DevO bd D') (CelO bd bc base half M')))) {X : Obj} (g : Good X) :
    DoesIn wb f args (Pair2 (Pair2 (BlkO ba (WorC bd bc bw bq) 41) (BlkO bo co 31)) (Pair2 (Pair2 (DevO bd D) (CelO bd bc base half M)) X)) (RetE v (Pair2 (Pair2 (BlkO ba (WorC bd bc bw bq) 41) (BlkO bo co 31)) (Pair2 (Pair2 (DevO bd D') (CelO bd bc base half M')) X))) :=
  (h.in_.ret g).ret' (Pair2.good (BlkO.good _ _ _) (BlkO.good _ _ _))
theorem Does.two {wb : World} {ba bo bd bc bw bq base half : Nat} {co : List Value} {f : FuncId} {args : Array Value} {v : Value} {D D' : Dev} {M M' : CellM} (h : Does f args (Pair2 (QO bw D) (XelO bw bq base half M)) (RetE v (Pair2 (QO bw D') (XelO bw bq base half M')))) {X : Obj} (g : Good X) :
    DoesIn wb f args (Pair2 (Pair2 (BlkO ba (WorC bd bc bw bq) 41) (BlkO bo co 31)) (Pair2 X (Pair2 (QO bw D) (XelO bw bq base half M)))) (RetE v (Pair2 (Pair2 (BlkO ba (WorC bd bc bw bq) 41) (BlkO bo co 31)) (Pair2 X (Pair2 (QO bw D') (XelO bw bq base half M'))))) :=
  (h.in_.ret' g).ret' (Pair2.good (BlkO.good _ _ _) (BlkO.good _ _ _))
theorem Does.right {f : FuncId} {args : Array Value} {v : Value} {A B B' : Obj} (h : Does f args B (RetE v B')) (g : Good A) : Does f args (Pair2 A B) (RetE v (Pair2 A B')) :=
  (h.beside g).conv (fun _ _ h => h.swap) fun _ _ _ h => ⟨(RetE.beside h).1, (RetE.beside h).2.swap⟩
theorem Kept.world {wb w : World} {ba bo bd bc bw bq : Nat} {co : List Value} {X : Obj} (h : Kept wb (Pair2 (Pair2 (BlkO ba (WorC bd bc bw bq) 41) (BlkO bo co 31)) X) w) :
    w.cell? ⟨ba, 1, none⟩ = some (.pointer (some ⟨bc, 0, none⟩)) ∧ w.cell? ⟨ba, 3, none⟩ = some (.pointer (some ⟨bq, 0, none⟩)) ∧ ∀ i, w.cell? ⟨bo, i, none⟩ = co[i]? :=
  ⟨h.blk2.1.cell 1, h.blk2.1.cell 3, fun i => h.blk2.2.cell i⟩

def opC (k : UInt8) (s t : ByteArray) (n : Int) (v : Value) : List Value := [.int .u8 (k.toNat : Int), .string s, .string t, .int .i64 n, v]
section
variable {wb w : World} {ba bd bc bw bq base half : Nat} {D : Dev} {M : CellM} {k : UInt8} {s t : ByteArray} {n : Int} {v : Value}
set_option maxHeartbeats 3200000 in
set_option maxRecDepth 100000 in
theorem step_drop (hK : Kept wb (AllO ba bd bc bw bq base half D M) w) (hk : k.toNat % 10 = 3) (hs : s.size ≤ maxLen) (x y : Int) :
    Calls Tryz.prog 8 #[.pointer (some ⟨ba, 0, none⟩), .agg #[.int .u8 (k.toNat : Int), .string s, .string t, .int .i64 n, v], .int .i64 x, .int .i64 y] w fun e w' => e = .returned (.bool true) ∧ Box (Kept wb (AllO ba bd bc bw bq base half D { M with now := dropC M.now s.data.toList }) w') := by
  have hB := hK.box (opC k s t n v)
  obtain ⟨bo, hbo⟩ : ∃ bo, w.heap.size = bo := ⟨_, rfl⟩
  obtain ⟨w1, hw1⟩ : ∃ w1, w.alloc (.cells #[.int .u8 (k.toNat : Int), .string s, .string t, .int .i64 n, v] 31) = w1 := ⟨_, rfl⟩
  rw [show w.alloc (.cells (opC k s t n v).toArray 31) = w1 from hw1, hbo] at hB
  obtain ⟨c1, c3, co⟩ := hB.world
  have o0 : w1.cell? ⟨bo, 0, none⟩ = some (.int .u8 (k.toNat : Int)) := co 0
  have hki : (k.toNat : Int) % 10 = 3 := by omega
  have hBd : Kept wb (AllP ba bo bd bc bw bq base half (opC k s t n v) D M) w1.drew := hB.below (Pair2.good (Pair2.good (BlkO.good _ _ _) (BlkO.good _ _ _)) (TwoO.good _ _ _ _ _ _ _ _)) (show Below w1.heap.size w1 w1.drew from below_drewN _ w1 1)
  have hP := hBd.step (Does.one ((drop_does bd bc base half M s hs).right (DevO.good _ _)) (Pair2.good (QO.good _ _) (XelO.good _ _ _ _ _)))
  have d1 : w1.drew.cell? ⟨ba, 1, none⟩ = some (.pointer (some ⟨bc, 0, none⟩)) := c1
  have d3 : w1.drew.cell? ⟨ba, 3, none⟩ = some (.pointer (some ⟨bq, 0, none⟩)) := c3
  have p1 : w1.drew.cell? ⟨bo, 1, none⟩ = some (.string s) := co 1
  have p2 : w1.drew.cell? ⟨bo, 2, none⟩ = some (.string t) := co 2
  have hX := fun w2 (h : Kept wb _ w2) => h.step (Does.two (wb := wb) (ba := ba) (bo := bo) (bd := bd) (bc := bc) (co := opC k s t n v) ((xdrop_does bw bq base half M s).right (QO.good bw D)) (Pair2.good (DevO.good bd (D)) (CelO.good bd bc base half ({ M with now := dropC M.now s.data.toList }))))
  obtain ⟨y1, hy1⟩ : ∃ y1, (getC M.now s.data.toList).isSome = y1 := ⟨_, rfl⟩
  rw [hy1] at hP hX
  replace hP := Box.mk hP
  replace hX := Box.mk hX
  replace hy1 := Box.mk hy1
  clear hB hBd hK co hk
  go_enter Tryz.func8, Tryz.ntmps8
  go_wp2_with fail
  refine region_go (C := fun w' => w'.cell? ⟨ba, 1, none⟩ = some (.pointer (some ⟨bc, 0, none⟩)) ∧ w'.cell? ⟨ba, 3, none⟩ = some (.pointer (some ⟨bq, 0, none⟩)) ∧ w'.cell? ⟨bo, 1, none⟩ = some (.string s) ∧ w'.cell? ⟨bo, 2, none⟩ = some (.string t)) rfl ?_
  refine go_calms [0, 1, 2, 3, 4, 5, 7, 8, 9, 10, 11, 12] 4 rfl (by kernel_rfl) (by kernel_rfl) (by kernel_rfl) ⟨d1, d3, p1, p2⟩ ?_
  simp [nth]
  try simp only [Act.put]
  repeat (go_big_quiet_step (first | exact fun _ => rfl | rfl))
  refine quiet_any rfl (.pointer (some ⟨ba, 0, none⟩)) (fun w' hw' => by go_simp) ?_
  simp only [Act.put, List.setIfInBounds_toArray, List.set_cons_succ, List.set_cons_zero]
  refine quiet_any rfl (.pointer (some ⟨ba, 1, none⟩)) (fun w' hw' => by go_simp) ?_
  simp only [Act.put, List.setIfInBounds_toArray, List.set_cons_succ, List.set_cons_zero]
  refine quiet_any rfl (.pointer (some ⟨bc, 0, none⟩)) (fun w' hw' => by have h := hw'.1; go_simp) ?_
  simp only [Act.put, List.setIfInBounds_toArray, List.set_cons_succ, List.set_cons_zero]
  refine quiet_any rfl (.pointer (some ⟨bo, 1, none⟩)) (fun w' hw' => by go_simp) ?_
  simp only [Act.put, List.setIfInBounds_toArray, List.set_cons_succ, List.set_cons_zero]
  refine quiet_any rfl (.string s) (fun w' hw' => by have h := hw'.2.2.1; go_simp) ?_
  simp only [Act.put, List.setIfInBounds_toArray, List.set_cons_succ, List.set_cons_zero]
  repeat (go_big_quiet_step (first | exact fun _ => rfl | rfl))
  refine quiet_any rfl (.pointer (some ⟨ba, 0, none⟩)) (fun w' hw' => by go_simp) ?_
  simp only [Act.put, List.setIfInBounds_toArray, List.set_cons_succ, List.set_cons_zero]
  refine quiet_any rfl (.pointer (some ⟨ba, 3, none⟩)) (fun w' hw' => by go_simp) ?_
  simp only [Act.put, List.setIfInBounds_toArray, List.set_cons_succ, List.set_cons_zero]
  refine quiet_any rfl (.pointer (some ⟨bq, 0, none⟩)) (fun w' hw' => by have h := hw'.2.1; go_simp) ?_
  simp only [Act.put, List.setIfInBounds_toArray, List.set_cons_succ, List.set_cons_zero]
  refine quiet_any rfl (.pointer (some ⟨bo, 1, none⟩)) (fun w' hw' => by go_simp) ?_
  simp only [Act.put, List.setIfInBounds_toArray, List.set_cons_succ, List.set_cons_zero]
  refine quiet_any rfl (.string s) (fun w' hw' => by have h := hw'.2.2.1; go_simp) ?_
  simp only [Act.put, List.setIfInBounds_toArray, List.set_cons_succ, List.set_cons_zero]
  refine wpQuiet_nil ?_
  refine go_forced 6 (by kernel_rfl) (goOp_wp 6 rfl rfl (fun K hK => ?_))
  go_simp
  refine hP.out.mono ?_
  rintro e w2 ⟨rfl, hk2⟩
  obtain ⟨e1, e3, eo⟩ := hk2.out.world
  refine hK _ _ ⟨e1, e3, eo 1, eo 2⟩ ?_
  clear hK K hP e1 e3 eo
  have hF := Box.mk (hX.out w2 hk2.out)
  refine go_forced 13 (by kernel_rfl) (goOp_wp 13 rfl rfl (fun K hK => ?_))
  go_simp
  refine hF.out.mono ?_
  rintro e w3 ⟨rfl, hk3⟩
  obtain ⟨e1, e3, eo⟩ := hk3.out.world
  have hC3 : w3.cell? ⟨ba, 1, none⟩ = some (.pointer (some ⟨bc, 0, none⟩)) ∧ w3.cell? ⟨ba, 3, none⟩ = some (.pointer (some ⟨bq, 0, none⟩)) ∧ w3.cell? ⟨bo, 1, none⟩ = some (.string s) ∧ w3.cell? ⟨bo, 2, none⟩ = some (.string t) := ⟨e1, e3, eo 1, eo 2⟩
  refine hK _ _ hC3 ?_
  clear hK K hF e1 e3 eo
  refine go_calms [14, 15] 0 rfl (by kernel_rfl) (by kernel_rfl) (by kernel_rfl) hC3 ?_
  simp [nth]
  try simp only [Act.put]
  refine quiet_any rfl (.bool true) (fun w' hw' => by go_simp) ?_
  simp only [Act.put, List.setIfInBounds_toArray, List.set_cons_succ, List.set_cons_zero]
  repeat (go_big_quiet_step (first | exact fun _ => rfl | rfl))
  refine wpQuiet_nil ?_
  refine go_done (by kernel_rfl) ?_
  have hfin := Box.mk (hk3.out.conv fun F h => Pair2.drop h)
  clear hk3 hk2 hX
  go_simp
  go_wp2_with fail
  go_returns
  exact ⟨rfl, hfin⟩
set_option maxHeartbeats 3200000 in
set_option maxRecDepth 100000 in
theorem step_put (hK : Kept wb (AllO ba bd bc bw bq base half D M) w) (hk : k.toNat % 10 < 3) (hs : s.size ≤ maxLen) (ht : t.size ≤ maxLen) (x y : Int) :
    Calls Tryz.prog 8 #[.pointer (some ⟨ba, 0, none⟩), .agg #[.int .u8 (k.toNat : Int), .string s, .string t, .int .i64 n, v], .int .i64 x, .int .i64 y] w fun e w' => e = .returned (.bool true) ∧ Box (Kept wb (AllO ba bd bc bw bq base half D { M with now := putM M.now s.data.toList t.data.toList }) w') := by
  have hB := hK.box (opC k s t n v)
  obtain ⟨bo, hbo⟩ : ∃ bo, w.heap.size = bo := ⟨_, rfl⟩
  obtain ⟨w1, hw1⟩ : ∃ w1, w.alloc (.cells #[.int .u8 (k.toNat : Int), .string s, .string t, .int .i64 n, v] 31) = w1 := ⟨_, rfl⟩
  rw [show w.alloc (.cells (opC k s t n v).toArray 31) = w1 from hw1, hbo] at hB
  obtain ⟨c1, c3, co⟩ := hB.world
  have o0 : w1.cell? ⟨bo, 0, none⟩ = some (.int .u8 (k.toNat : Int)) := co 0
  obtain ⟨kk, hkk⟩ : ∃ kk : Nat, k.toNat % 10 = kk := ⟨_, rfl⟩
  rw [hkk] at hk
  have hki : (k.toNat : Int) % 10 = (kk : Int) := by omega
  have hk3 : ((kk : Int) == 3) = false := by simp; omega
  have hk4 : ((kk : Int) == 4) = false := by simp; omega
  have hk5 : ((kk : Int) == 5) = false := by simp; omega
  have hk6 : ((kk : Int) == 6) = false := by simp; omega
  have hk7 : ((kk : Int) == 7) = false := by simp; omega
  have hk8 : ((kk : Int) == 8) = false := by simp; omega
  have hk9 : ((kk : Int) == 9) = false := by simp; omega
  clear hkk
  have hBd : Kept wb (AllP ba bo bd bc bw bq base half (opC k s t n v) D M) w1.drew := hB.below (Pair2.good (Pair2.good (BlkO.good _ _ _) (BlkO.good _ _ _)) (TwoO.good _ _ _ _ _ _ _ _)) (show Below w1.heap.size w1 w1.drew from below_drewN _ w1 1)
  have hP := hBd.step (Does.one ((put_does bd bc base half M s t hs ht).right (DevO.good _ _)) (Pair2.good (QO.good _ _) (XelO.good _ _ _ _ _)))
  have d1 : w1.drew.cell? ⟨ba, 1, none⟩ = some (.pointer (some ⟨bc, 0, none⟩)) := c1
  have d3 : w1.drew.cell? ⟨ba, 3, none⟩ = some (.pointer (some ⟨bq, 0, none⟩)) := c3
  have p1 : w1.drew.cell? ⟨bo, 1, none⟩ = some (.string s) := co 1
  have p2 : w1.drew.cell? ⟨bo, 2, none⟩ = some (.string t) := co 2
  have hX := fun w2 (h : Kept wb _ w2) => h.step (Does.two (wb := wb) (ba := ba) (bo := bo) (bd := bd) (bc := bc) (co := opC k s t n v) ((xput_does bw bq base half M s t).right (QO.good bw D)) (Pair2.good (DevO.good bd (D)) (CelO.good bd bc base half ({ M with now := putM M.now s.data.toList t.data.toList }))))
  obtain ⟨y1, hy1⟩ : ∃ y1, putE M.now s.data.toList t.data.toList = y1 := ⟨_, rfl⟩
  rw [hy1] at hP hX
  replace hP := Box.mk hP
  replace hX := Box.mk hX
  replace hy1 := Box.mk hy1
  clear hB hBd hK co hk
  go_enter Tryz.func8, Tryz.ntmps8
  go_wp2_with fail
  refine region_go (C := fun w' => w'.cell? ⟨ba, 1, none⟩ = some (.pointer (some ⟨bc, 0, none⟩)) ∧ w'.cell? ⟨ba, 3, none⟩ = some (.pointer (some ⟨bq, 0, none⟩)) ∧ w'.cell? ⟨bo, 1, none⟩ = some (.string s) ∧ w'.cell? ⟨bo, 2, none⟩ = some (.string t)) rfl ?_
  refine go_calms [0, 1, 2, 3, 4, 5, 6, 7, 9, 10, 11, 12, 13, 14, 15, 16] 4 rfl (by kernel_rfl) (by kernel_rfl) (by kernel_rfl) ⟨d1, d3, p1, p2⟩ ?_
  simp [nth]
  try simp only [Act.put]
  repeat (go_big_quiet_step (first | exact fun _ => rfl | rfl))
  refine quiet_any rfl (.pointer (some ⟨ba, 0, none⟩)) (fun w' hw' => by go_simp) ?_
  simp only [Act.put, List.setIfInBounds_toArray, List.set_cons_succ, List.set_cons_zero]
  refine quiet_any rfl (.pointer (some ⟨ba, 1, none⟩)) (fun w' hw' => by go_simp) ?_
  simp only [Act.put, List.setIfInBounds_toArray, List.set_cons_succ, List.set_cons_zero]
  refine quiet_any rfl (.pointer (some ⟨bc, 0, none⟩)) (fun w' hw' => by have h := hw'.1; go_simp) ?_
  simp only [Act.put, List.setIfInBounds_toArray, List.set_cons_succ, List.set_cons_zero]
  refine quiet_any rfl (.pointer (some ⟨bo, 1, none⟩)) (fun w' hw' => by go_simp) ?_
  simp only [Act.put, List.setIfInBounds_toArray, List.set_cons_succ, List.set_cons_zero]
  refine quiet_any rfl (.string s) (fun w' hw' => by have h := hw'.2.2.1; go_simp) ?_
  simp only [Act.put, List.setIfInBounds_toArray, List.set_cons_succ, List.set_cons_zero]
  refine quiet_any rfl (.pointer (some ⟨bo, 2, none⟩)) (fun w' hw' => by go_simp) ?_
  simp only [Act.put, List.setIfInBounds_toArray, List.set_cons_succ, List.set_cons_zero]
  refine quiet_any rfl (.string t) (fun w' hw' => by have h := hw'.2.2.2; go_simp) ?_
  simp only [Act.put, List.setIfInBounds_toArray, List.set_cons_succ, List.set_cons_zero]
  repeat (go_big_quiet_step (first | exact fun _ => rfl | rfl))
  refine quiet_any rfl (.pointer (some ⟨ba, 0, none⟩)) (fun w' hw' => by go_simp) ?_
  simp only [Act.put, List.setIfInBounds_toArray, List.set_cons_succ, List.set_cons_zero]
  refine quiet_any rfl (.pointer (some ⟨ba, 3, none⟩)) (fun w' hw' => by go_simp) ?_
  simp only [Act.put, List.setIfInBounds_toArray, List.set_cons_succ, List.set_cons_zero]
  refine quiet_any rfl (.pointer (some ⟨bq, 0, none⟩)) (fun w' hw' => by have h := hw'.2.1; go_simp) ?_
  simp only [Act.put, List.setIfInBounds_toArray, List.set_cons_succ, List.set_cons_zero]
  refine quiet_any rfl (.pointer (some ⟨bo, 1, none⟩)) (fun w' hw' => by go_simp) ?_
  simp only [Act.put, List.setIfInBounds_toArray, List.set_cons_succ, List.set_cons_zero]
  refine quiet_any rfl (.string s) (fun w' hw' => by have h := hw'.2.2.1; go_simp) ?_
  simp only [Act.put, List.setIfInBounds_toArray, List.set_cons_succ, List.set_cons_zero]
  refine quiet_any rfl (.pointer (some ⟨bo, 2, none⟩)) (fun w' hw' => by go_simp) ?_
  simp only [Act.put, List.setIfInBounds_toArray, List.set_cons_succ, List.set_cons_zero]
  refine quiet_any rfl (.string t) (fun w' hw' => by have h := hw'.2.2.2; go_simp) ?_
  simp only [Act.put, List.setIfInBounds_toArray, List.set_cons_succ, List.set_cons_zero]
  refine wpQuiet_nil ?_
  refine go_forced 8 (by kernel_rfl) (goOp_wp 8 rfl rfl (fun K hK => ?_))
  go_simp
  refine hP.out.mono ?_
  rintro e w2 ⟨rfl, hk2⟩
  obtain ⟨e1, e3, eo⟩ := hk2.out.world
  refine hK _ _ ⟨e1, e3, eo 1, eo 2⟩ ?_
  clear hK K hP e1 e3 eo
  have hF := Box.mk (hX.out w2 hk2.out)
  refine go_forced 17 (by kernel_rfl) (goOp_wp 17 rfl rfl (fun K hK => ?_))
  go_simp
  refine hF.out.mono ?_
  rintro e w3 ⟨rfl, hk3⟩
  obtain ⟨e1, e3, eo⟩ := hk3.out.world
  have hC3 : w3.cell? ⟨ba, 1, none⟩ = some (.pointer (some ⟨bc, 0, none⟩)) ∧ w3.cell? ⟨ba, 3, none⟩ = some (.pointer (some ⟨bq, 0, none⟩)) ∧ w3.cell? ⟨bo, 1, none⟩ = some (.string s) ∧ w3.cell? ⟨bo, 2, none⟩ = some (.string t) := ⟨e1, e3, eo 1, eo 2⟩
  refine hK _ _ hC3 ?_
  clear hK K hF e1 e3 eo
  refine go_calms [18, 19] 0 rfl (by kernel_rfl) (by kernel_rfl) (by kernel_rfl) hC3 ?_
  simp [nth]
  try simp only [Act.put]
  refine quiet_any rfl (.bool true) (fun w' hw' => by go_simp) ?_
  simp only [Act.put, List.setIfInBounds_toArray, List.set_cons_succ, List.set_cons_zero]
  repeat (go_big_quiet_step (first | exact fun _ => rfl | rfl))
  refine wpQuiet_nil ?_
  refine go_done (by kernel_rfl) ?_
  have hfin := Box.mk (hk3.out.conv fun F h => Pair2.drop h)
  clear hk3 hk2 hX
  go_simp
  go_wp2_with fail
  go_returns
  exact ⟨rfl, hfin⟩
set_option maxHeartbeats 3200000 in
set_option maxRecDepth 100000 in
theorem step_commit5 (hK : Kept wb (AllO ba bd bc bw bq base half D M) w) (hk : k.toNat % 10 = 5) (hin : base + 2 * half ≤ D.safe.length) (hkt : D.taken ≤ 100000) (hf : D.fall ≤ 9223372036854775807) (hws : D.ws.length ≤ 100000) (hnum : M.num < 1000000) (x y : Int) :
    Calls Tryz.prog 8 #[.pointer (some ⟨ba, 0, none⟩), .agg #[.int .u8 (k.toNat : Int), .string s, .string t, .int .i64 n, v], .int .i64 x, .int .i64 y] w fun e w' => e = .returned (.bool true) ∧ Box (Kept wb (AllO ba bd bc bw bq base half (commitD base half D M) (commitC base half D M)) w') := by
  have hB := hK.box (opC k s t n v)
  obtain ⟨bo, hbo⟩ : ∃ bo, w.heap.size = bo := ⟨_, rfl⟩
  obtain ⟨w1, hw1⟩ : ∃ w1, w.alloc (.cells #[.int .u8 (k.toNat : Int), .string s, .string t, .int .i64 n, v] 31) = w1 := ⟨_, rfl⟩
  rw [show w.alloc (.cells (opC k s t n v).toArray 31) = w1 from hw1, hbo] at hB
  obtain ⟨c1, c3, co⟩ := hB.world
  have o0 : w1.cell? ⟨bo, 0, none⟩ = some (.int .u8 (k.toNat : Int)) := co 0
  have hki : (k.toNat : Int) % 10 = 5 := by omega
  have hBd : Kept wb (AllP ba bo bd bc bw bq base half (opC k s t n v) D M) w1.drew := hB.below (Pair2.good (Pair2.good (BlkO.good _ _ _) (BlkO.good _ _ _)) (TwoO.good _ _ _ _ _ _ _ _)) (show Below w1.heap.size w1 w1.drew from below_drewN _ w1 1)
  have hP := hBd.step (Does.one (commit_does bd bc base half D M hkt hf hws hnum) (Pair2.good (QO.good _ _) (XelO.good _ _ _ _ _)))
  have d1 : w1.drew.cell? ⟨ba, 1, none⟩ = some (.pointer (some ⟨bc, 0, none⟩)) := c1
  have d3 : w1.drew.cell? ⟨ba, 3, none⟩ = some (.pointer (some ⟨bq, 0, none⟩)) := c3
  have p1 : w1.drew.cell? ⟨bo, 1, none⟩ = some (.string s) := co 1
  have p2 : w1.drew.cell? ⟨bo, 2, none⟩ = some (.string t) := co 2
  have hX := fun w2 (h : Kept wb _ w2) => h.step (Does.two (wb := wb) (ba := ba) (bo := bo) (bd := bd) (bc := bc) (co := opC k s t n v) (xcommit_does bw bq base half D M hin hkt hf hws hnum) (Pair2.good (DevO.good bd ((commitD base half D M))) (CelO.good bd bc base half ((commitC base half D M)))))
  obtain ⟨y1, hy1⟩ : ∃ y1, commitE base half D M = y1 := ⟨_, rfl⟩
  rw [hy1] at hP hX
  replace hP := Box.mk hP
  replace hX := Box.mk hX
  replace hy1 := Box.mk hy1
  clear hB hBd hK co hk
  go_enter Tryz.func8, Tryz.ntmps8
  go_wp2_with fail
  refine region_go (C := fun w' => w'.cell? ⟨ba, 1, none⟩ = some (.pointer (some ⟨bc, 0, none⟩)) ∧ w'.cell? ⟨ba, 3, none⟩ = some (.pointer (some ⟨bq, 0, none⟩)) ∧ w'.cell? ⟨bo, 1, none⟩ = some (.string s) ∧ w'.cell? ⟨bo, 2, none⟩ = some (.string t)) rfl ?_
  refine go_calms [0, 1, 2, 3, 5, 6, 7, 8] 4 rfl (by kernel_rfl) (by kernel_rfl) (by kernel_rfl) ⟨d1, d3, p1, p2⟩ ?_
  simp [nth]
  try simp only [Act.put]
  repeat (go_big_quiet_step (first | exact fun _ => rfl | rfl))
  refine quiet_any rfl (.pointer (some ⟨ba, 0, none⟩)) (fun w' hw' => by go_simp) ?_
  simp only [Act.put, List.setIfInBounds_toArray, List.set_cons_succ, List.set_cons_zero]
  refine quiet_any rfl (.pointer (some ⟨ba, 1, none⟩)) (fun w' hw' => by go_simp) ?_
  simp only [Act.put, List.setIfInBounds_toArray, List.set_cons_succ, List.set_cons_zero]
  refine quiet_any rfl (.pointer (some ⟨bc, 0, none⟩)) (fun w' hw' => by have h := hw'.1; go_simp) ?_
  simp only [Act.put, List.setIfInBounds_toArray, List.set_cons_succ, List.set_cons_zero]
  repeat (go_big_quiet_step (first | exact fun _ => rfl | rfl))
  refine quiet_any rfl (.pointer (some ⟨ba, 0, none⟩)) (fun w' hw' => by go_simp) ?_
  simp only [Act.put, List.setIfInBounds_toArray, List.set_cons_succ, List.set_cons_zero]
  refine quiet_any rfl (.pointer (some ⟨ba, 3, none⟩)) (fun w' hw' => by go_simp) ?_
  simp only [Act.put, List.setIfInBounds_toArray, List.set_cons_succ, List.set_cons_zero]
  refine quiet_any rfl (.pointer (some ⟨bq, 0, none⟩)) (fun w' hw' => by have h := hw'.2.1; go_simp) ?_
  simp only [Act.put, List.setIfInBounds_toArray, List.set_cons_succ, List.set_cons_zero]
  refine wpQuiet_nil ?_
  refine go_forced 4 (by kernel_rfl) (goOp_wp 4 rfl rfl (fun K hK => ?_))
  go_simp
  refine hP.out.mono ?_
  rintro e w2 ⟨rfl, hk2⟩
  obtain ⟨e1, e3, eo⟩ := hk2.out.world
  refine hK _ _ ⟨e1, e3, eo 1, eo 2⟩ ?_
  clear hK K hP e1 e3 eo
  have hF := Box.mk (hX.out w2 hk2.out)
  refine go_forced 9 (by kernel_rfl) (goOp_wp 9 rfl rfl (fun K hK => ?_))
  go_simp
  refine hF.out.mono ?_
  rintro e w3 ⟨rfl, hk3⟩
  obtain ⟨e1, e3, eo⟩ := hk3.out.world
  have hC3 : w3.cell? ⟨ba, 1, none⟩ = some (.pointer (some ⟨bc, 0, none⟩)) ∧ w3.cell? ⟨ba, 3, none⟩ = some (.pointer (some ⟨bq, 0, none⟩)) ∧ w3.cell? ⟨bo, 1, none⟩ = some (.string s) ∧ w3.cell? ⟨bo, 2, none⟩ = some (.string t) := ⟨e1, e3, eo 1, eo 2⟩
  refine hK _ _ hC3 ?_
  clear hK K hF e1 e3 eo
  refine go_calms [10, 11] 0 rfl (by kernel_rfl) (by kernel_rfl) (by kernel_rfl) hC3 ?_
  simp [nth]
  try simp only [Act.put]
  refine quiet_any rfl (.bool true) (fun w' hw' => by go_simp) ?_
  simp only [Act.put, List.setIfInBounds_toArray, List.set_cons_succ, List.set_cons_zero]
  repeat (go_big_quiet_step (first | exact fun _ => rfl | rfl))
  refine wpQuiet_nil ?_
  refine go_done (by kernel_rfl) ?_
  have hfin := Box.mk (hk3.out.conv fun F h => Pair2.drop h)
  clear hk3 hk2 hX
  go_simp
  go_wp2_with fail
  go_returns
  exact ⟨rfl, hfin⟩
set_option maxHeartbeats 3200000 in
set_option maxRecDepth 100000 in
theorem step_commit6 (hK : Kept wb (AllO ba bd bc bw bq base half D M) w) (hk : k.toNat % 10 = 6) (hin : base + 2 * half ≤ D.safe.length) (hkt : D.taken ≤ 100000) (hf : D.fall ≤ 9223372036854775807) (hws : D.ws.length ≤ 100000) (hnum : M.num < 1000000) (x y : Int) :
    Calls Tryz.prog 8 #[.pointer (some ⟨ba, 0, none⟩), .agg #[.int .u8 (k.toNat : Int), .string s, .string t, .int .i64 n, v], .int .i64 x, .int .i64 y] w fun e w' => e = .returned (.bool true) ∧ Box (Kept wb (AllO ba bd bc bw bq base half (commitD base half D M) (commitC base half D M)) w') := by
  have hB := hK.box (opC k s t n v)
  obtain ⟨bo, hbo⟩ : ∃ bo, w.heap.size = bo := ⟨_, rfl⟩
  obtain ⟨w1, hw1⟩ : ∃ w1, w.alloc (.cells #[.int .u8 (k.toNat : Int), .string s, .string t, .int .i64 n, v] 31) = w1 := ⟨_, rfl⟩
  rw [show w.alloc (.cells (opC k s t n v).toArray 31) = w1 from hw1, hbo] at hB
  obtain ⟨c1, c3, co⟩ := hB.world
  have o0 : w1.cell? ⟨bo, 0, none⟩ = some (.int .u8 (k.toNat : Int)) := co 0
  have hki : (k.toNat : Int) % 10 = 6 := by omega
  have hBd : Kept wb (AllP ba bo bd bc bw bq base half (opC k s t n v) D M) w1.drew := hB.below (Pair2.good (Pair2.good (BlkO.good _ _ _) (BlkO.good _ _ _)) (TwoO.good _ _ _ _ _ _ _ _)) (show Below w1.heap.size w1 w1.drew from below_drewN _ w1 1)
  have hP := hBd.step (Does.one (commit_does bd bc base half D M hkt hf hws hnum) (Pair2.good (QO.good _ _) (XelO.good _ _ _ _ _)))
  have d1 : w1.drew.cell? ⟨ba, 1, none⟩ = some (.pointer (some ⟨bc, 0, none⟩)) := c1
  have d3 : w1.drew.cell? ⟨ba, 3, none⟩ = some (.pointer (some ⟨bq, 0, none⟩)) := c3
  have p1 : w1.drew.cell? ⟨bo, 1, none⟩ = some (.string s) := co 1
  have p2 : w1.drew.cell? ⟨bo, 2, none⟩ = some (.string t) := co 2
  have hX := fun w2 (h : Kept wb _ w2) => h.step (Does.two (wb := wb) (ba := ba) (bo := bo) (bd := bd) (bc := bc) (co := opC k s t n v) (xcommit_does bw bq base half D M hin hkt hf hws hnum) (Pair2.good (DevO.good bd ((commitD base half D M))) (CelO.good bd bc base half ((commitC base half D M)))))
  obtain ⟨y1, hy1⟩ : ∃ y1, commitE base half D M = y1 := ⟨_, rfl⟩
  rw [hy1] at hP hX
  replace hP := Box.mk hP
  replace hX := Box.mk hX
  replace hy1 := Box.mk hy1
  clear hB hBd hK co hk
  go_enter Tryz.func8, Tryz.ntmps8
  go_wp2_with fail
  refine region_go (C := fun w' => w'.cell? ⟨ba, 1, none⟩ = some (.pointer (some ⟨bc, 0, none⟩)) ∧ w'.cell? ⟨ba, 3, none⟩ = some (.pointer (some ⟨bq, 0, none⟩)) ∧ w'.cell? ⟨bo, 1, none⟩ = some (.string s) ∧ w'.cell? ⟨bo, 2, none⟩ = some (.string t)) rfl ?_
  refine go_calms [0, 1, 2, 3, 5, 6, 7, 8] 4 rfl (by kernel_rfl) (by kernel_rfl) (by kernel_rfl) ⟨d1, d3, p1, p2⟩ ?_
  simp [nth]
  try simp only [Act.put]
  repeat (go_big_quiet_step (first | exact fun _ => rfl | rfl))
  refine quiet_any rfl (.pointer (some ⟨ba, 0, none⟩)) (fun w' hw' => by go_simp) ?_
  simp only [Act.put, List.setIfInBounds_toArray, List.set_cons_succ, List.set_cons_zero]
  refine quiet_any rfl (.pointer (some ⟨ba, 1, none⟩)) (fun w' hw' => by go_simp) ?_
  simp only [Act.put, List.setIfInBounds_toArray, List.set_cons_succ, List.set_cons_zero]
  refine quiet_any rfl (.pointer (some ⟨bc, 0, none⟩)) (fun w' hw' => by have h := hw'.1; go_simp) ?_
  simp only [Act.put, List.setIfInBounds_toArray, List.set_cons_succ, List.set_cons_zero]
  repeat (go_big_quiet_step (first | exact fun _ => rfl | rfl))
  refine quiet_any rfl (.pointer (some ⟨ba, 0, none⟩)) (fun w' hw' => by go_simp) ?_
  simp only [Act.put, List.setIfInBounds_toArray, List.set_cons_succ, List.set_cons_zero]
  refine quiet_any rfl (.pointer (some ⟨ba, 3, none⟩)) (fun w' hw' => by go_simp) ?_
  simp only [Act.put, List.setIfInBounds_toArray, List.set_cons_succ, List.set_cons_zero]
  refine quiet_any rfl (.pointer (some ⟨bq, 0, none⟩)) (fun w' hw' => by have h := hw'.2.1; go_simp) ?_
  simp only [Act.put, List.setIfInBounds_toArray, List.set_cons_succ, List.set_cons_zero]
  refine wpQuiet_nil ?_
  refine go_forced 4 (by kernel_rfl) (goOp_wp 4 rfl rfl (fun K hK => ?_))
  go_simp
  refine hP.out.mono ?_
  rintro e w2 ⟨rfl, hk2⟩
  obtain ⟨e1, e3, eo⟩ := hk2.out.world
  refine hK _ _ ⟨e1, e3, eo 1, eo 2⟩ ?_
  clear hK K hP e1 e3 eo
  have hF := Box.mk (hX.out w2 hk2.out)
  refine go_forced 9 (by kernel_rfl) (goOp_wp 9 rfl rfl (fun K hK => ?_))
  go_simp
  refine hF.out.mono ?_
  rintro e w3 ⟨rfl, hk3⟩
  obtain ⟨e1, e3, eo⟩ := hk3.out.world
  have hC3 : w3.cell? ⟨ba, 1, none⟩ = some (.pointer (some ⟨bc, 0, none⟩)) ∧ w3.cell? ⟨ba, 3, none⟩ = some (.pointer (some ⟨bq, 0, none⟩)) ∧ w3.cell? ⟨bo, 1, none⟩ = some (.string s) ∧ w3.cell? ⟨bo, 2, none⟩ = some (.string t) := ⟨e1, e3, eo 1, eo 2⟩
  refine hK _ _ hC3 ?_
  clear hK K hF e1 e3 eo
  refine go_calms [10, 11] 0 rfl (by kernel_rfl) (by kernel_rfl) (by kernel_rfl) hC3 ?_
  simp [nth]
  try simp only [Act.put]
  refine quiet_any rfl (.bool true) (fun w' hw' => by go_simp) ?_
  simp only [Act.put, List.setIfInBounds_toArray, List.set_cons_succ, List.set_cons_zero]
  repeat (go_big_quiet_step (first | exact fun _ => rfl | rfl))
  refine wpQuiet_nil ?_
  refine go_done (by kernel_rfl) ?_
  have hfin := Box.mk (hk3.out.conv fun F h => Pair2.drop h)
  clear hk3 hk2 hX
  go_simp
  go_wp2_with fail
  go_returns
  exact ⟨rfl, hfin⟩
set_option maxHeartbeats 3200000 in
set_option maxRecDepth 100000 in
theorem step_undo (hK : Kept wb (AllO ba bd bc bw bq base half D M) w) (hk : k.toNat % 10 = 4) (x y : Int) :
    Calls Tryz.prog 8 #[.pointer (some ⟨ba, 0, none⟩), .agg #[.int .u8 (k.toNat : Int), .string s, .string t, .int .i64 n, v], .int .i64 x, .int .i64 y] w fun e w' => e = .returned (.bool true) ∧ Box (Kept wb (AllO ba bd bc bw bq base half D { M with now := M.was }) w') := by
  have hB := hK.box (opC k s t n v)
  obtain ⟨bo, hbo⟩ : ∃ bo, w.heap.size = bo := ⟨_, rfl⟩
  obtain ⟨w1, hw1⟩ : ∃ w1, w.alloc (.cells #[.int .u8 (k.toNat : Int), .string s, .string t, .int .i64 n, v] 31) = w1 := ⟨_, rfl⟩
  rw [show w.alloc (.cells (opC k s t n v).toArray 31) = w1 from hw1, hbo] at hB
  obtain ⟨c1, c3, co⟩ := hB.world
  have o0 : w1.cell? ⟨bo, 0, none⟩ = some (.int .u8 (k.toNat : Int)) := co 0
  have hki : (k.toNat : Int) % 10 = 4 := by omega
  have hP := (show Kept wb (AllP ba bo bd bc bw bq base half (opC k s t n v) D M) w1 from hB).step (Does.one ((undo_does bd bc base half M).right (DevO.good _ _)) (Pair2.good (QO.good _ _) (XelO.good _ _ _ _ _)))
  have hX := fun w2 (h : Kept wb _ w2) => h.step (Does.two (wb := wb) (ba := ba) (bo := bo) (bd := bd) (bc := bc) (co := opC k s t n v) ((xundo_does bw bq base half M).right (QO.good bw D)) (Pair2.good (DevO.good bd D) (CelO.good bd bc base half { M with now := M.was })))
  replace hP := Box.mk hP
  replace hX := Box.mk hX
  clear hB hK co hk
  go_enter Tryz.func8, Tryz.ntmps8
  go_wp2_with fail
  refine hP.out.mono ?_
  rintro e w2 ⟨rfl, hk2⟩
  obtain ⟨e1, e3, eo⟩ := hk2.out.world
  have hF := Box.mk (hX.out w2 hk2.out)
  clear hP hX c1 c3 o0 e1 eo
  go_wp2_with fail
  refine hF.out.mono ?_
  rintro e w3 ⟨rfl, hk3⟩
  have hfin := Box.mk (hk3.out.conv fun F h => Pair2.drop h)
  clear hF hk2 hk3 e3
  go_wp2_with fail
  go_returns
  exact ⟨rfl, hfin⟩
end
end Go.Proofs.YtoaipjpbioaneaaGreat

namespace Go.Proofs.YtoaipjpbioaneaaGreat
open Go.RowKit Go.Maps

theorem take_next {α : Type} {c d : List α} {i : Nat} (hc : i < c.length) (hd : i < d.length) (h : c.take i = d.take i) (he : c[i] = d[i]) : c.take (i + 1) = d.take (i + 1) := by
  rw [List.take_succ_eq_append_getElem hc, List.take_succ_eq_append_getElem hd, h, he]
theorem btx_inj {a b : Bs} (h : btx a = btx b) : a = b := by
  have := congrArg (fun x : ByteArray => x.data.toList) h
  rwa [mk_list, mk_list] at this
structure SameL (w0 : World) (g cap N : Nat) (c : Ct) (i : Nat) (w : World) : Prop where
  row : ∃ ys, Row w 9 1 (.slice (some ⟨g, 0, none⟩) N cap) N ys ∧ ∀ j, i ≤ j → ys[j]? = (c.map nameV)[j]?
  k : Below w0.heap.size w0 w
set_option maxHeartbeats 6400000 in
set_option maxRecDepth 100000 in
theorem same_go (bd bc base half : Nat) (M : CellM) (F : Nat → Prop) (vl : Value) (C : Ct) (w : World) (h : CelO bd bc base half M w F) (hr : Row w 92 2 vl C.length (pcs C)) (hCok : C.ok) :
    Calls Tryz.prog 14 #[.pointer (some ⟨bc, 0, none⟩), vl] w fun e w' => e = .returned (.bool (decide (M.now = C))) ∧ Box (Below w.heap.size w w') := by
  obtain ⟨bn, p, hb, hM, hW, hFn, hFp, hne⟩ := h.out
  have hrise := h.ok.now.rise
  have hC := hCok.n
  have hmn := h.ok.now.n
  have hN := Box.mk (names_of bc bn _ M.now w hb hM hrise (by omega))
  obtain ⟨va, vc, rfl⟩ := hr.shape
  obtain ⟨N, hNe⟩ : ∃ N, M.now.length = N := ⟨_, rfl⟩
  obtain ⟨K, hKe⟩ : ∃ K, C.length = K := ⟨_, rfl⟩
  obtain ⟨ans, hans⟩ : ∃ ans, decide (M.now = C) = ans := ⟨_, rfl⟩
  rw [hans]
  rw [hKe] at hr hC ⊢
  rw [hNe] at hmn
  have hlt := h.lt
  replace hans := Box.mk hans
  replace hKe := Box.mk hKe
  replace hr := Box.mk hr
  replace hrise := Box.mk hrise
  have hO := Box.mk h
  clear hb hM hW hFn hFp hne h
  go_enter Tryz.func14, Tryz.ntmps14
  go_wp2_with fail
  refine hN.out.mono ?_
  rintro e w1 ⟨v, rfl, hrow, hown, hB1⟩
  rw [hNe] at hrow
  obtain ⟨na, nc, rfl⟩ := hrow.shape
  replace hNe := Box.mk hNe
  clear hN
  have hB1' := Box.mk hB1
  by_cases hnk : N = K
  · subst hnk
    by_cases h0 : N = 0
    · subst h0
      have hA : ans = true := by
        rw [← hans.out]
        simp [List.eq_nil_of_length_eq_zero hNe.out, List.eq_nil_of_length_eq_zero hKe.out]
      subst hA
      clear hrow hown hB1
      go_wp2_with fail
      go_loopw [19] (fun q wr => q = .int .i64 0 ∧ Box (Below w.heap.size w wr)) (fun _ _ => 0)
      case atStart => exact ⟨rfl, hB1'⟩
      case round =>
        obtain ⟨rfl, hB⟩ := hrel
        go_wp2_with fail
        go_returns
        exact ⟨rfl, hB⟩
    · obtain ⟨g, cap, e0, hgl⟩ := hrow.some (by omega)
      cases e0
      have hg := hown g rfl
      have hL0 : Box (SameL w g nc N M.now 0 w1) := ⟨⟨_, hrow, fun _ _ => rfl⟩, hB1⟩
      have hg' := Box.mk hg
      clear hrow hown hB1 hB1'
      go_wp2_with fail
      go_loopw [6, 7, 8, 9, 19] (fun _ _ _ _ q wr => ∃ i : Nat, i ≤ N ∧ q = .int .i64 (i : Int) ∧ Box (SameL w g nc N M.now i wr) ∧ Box (M.now.take i = C.take i)) (fun _ _ _ _ q _ => N - (intOf q).toNat)
      case atStart => exact ⟨0, by omega, rfl, hL0, ⟨rfl⟩⟩
      case round =>
        clear hL0
        obtain ⟨i, hi, rfl, hS, hT⟩ := hrel
        by_cases hil : i < N
        · have hiM : i < M.now.length := by rw [hNe.out]; exact hil
          have hiC : i < C.length := by rw [hKe.out]; exact hil
          obtain ⟨g2, c2, e2, hg2⟩ := hr.out.some (by omega)
          cases e2
          obtain ⟨p1, p2⟩ := pcs_get C i hiC
          have d1 := hr.out.cells (i * 2) _ p1
          have d2 := hr.out.cells (i * 2 + 1) _ p2
          rw [← hS.out.k.cell (p := ⟨g2, _, none⟩) hg2] at d1 d2
          have hcl := (hCok.each (C[i]) (List.getElem_mem hiC))
          have hgt : ∀ (hq : (M.now[i]).1 = (C[i]).1), getV M.now (btx (C[i]).1).data.toList = .tuple #[.string (btx (M.now[i]).2), .bool true] := fun hq => by
            rw [mk_list]
            have := getC_at (c := M.now) (n := (C[i]).1) hiM (fun j hj hji he => by
              have := List.pairwise_iff_getElem.1 hrise.out j i hj hiM hji
              rw [he, hq] at this
              exact absurd this (List.lt_irrefl _)) hq
            unfold getV
            rw [this]; rfl
          have hmm : ∀ (hq : (M.now[i]).1 ≠ (C[i]).1 ∨ (M.now[i]).2 ≠ (C[i]).2), ans = false := fun hq => by
            rw [← hans.out]
            refine decide_eq_false fun e => ?_
            have e1 : M.now[i] = C[i] := by simp only [e]
            rw [e1] at hq
            rcases hq with hq | hq <;> exact hq rfl
          have hnx : ∀ (h1 : (M.now[i]).1 = (C[i]).1) (h2 : (M.now[i]).2 = (C[i]).2), M.now.take (i + 1) = C.take (i + 1) := fun h1 h2 => take_next hiM hiC hT.out (Prod.ext h1 h2)
          obtain ⟨ys, hrow, hys⟩ := hS.out.row
          have q1 : ys[i]? = some (.string (btx (M.now[i]).1)) := by
            rw [hys i (Nat.le_refl _), List.getElem?_map, List.getElem?_eq_getElem hiM]; rfl
          have k1 := hrow.cells i _ q1
          have f1 := World.ownsRow.frozenAt hrow i
          have hst := (World.ownsRow.stored hrow i (.string { data := #[115, 112, 111, 105, 108, 116] })).1
          have hB := hS.out.k
          have hsz := hB.size
          obtain ⟨n1, hn1⟩ : ∃ x, btx (M.now[i]).1 = x := ⟨_, rfl⟩
          obtain ⟨n2, hn2⟩ : ∃ x, btx (C[i]).1 = x := ⟨_, rfl⟩
          obtain ⟨t1, ht1⟩ : ∃ x, btx (M.now[i]).2 = x := ⟨_, rfl⟩
          obtain ⟨t2, ht2⟩ : ∃ x, btx (C[i]).2 = x := ⟨_, rfl⟩
          rw [hn1] at k1
          rw [hn2] at d1 hgt
          rw [ht2] at d2
          rw [ht1] at hgt
          have hx := Box.mk (pair_range (w := wr) d1 d2)
          obtain ⟨w3, hw3⟩ : ∃ w3, wr.alloc (.cells #[.string n2, .string t2] 92) = w3 := ⟨_, rfl⟩
          have hb3 := Blk.new wr [.string n2, .string t2] 92
          rw [hw3] at hb3
          have hA3 : Below wr.heap.size wr w3 := hw3 ▸ (Below.refl _ _).alloc (Nat.le_refl _) _
          obtain ⟨bs, hbs⟩ : ∃ bs, wr.heap.size = bs := ⟨_, rfl⟩
          rw [hbs] at hb3
          have z0 : w3.cell? ⟨bs, 0, none⟩ = some (.string n2) := hb3.cell 0
          have z1 : w3.cell? ⟨bs, 1, none⟩ = some (.string t2) := hb3.cell 1
          have hB3 : Below w.heap.size w w3 := hB.trans (hA3.mono hsz)
          have hO3 := (CelO.good _ _ _ _ _).chg hO.out (Chg.of_below hB3) (fun k hk => by have := hlt k hk; omega)
          obtain ⟨bn3, p3, hb4, hM4, _⟩ := hO3.out
          have hG := get_any bc bn3 _ M.now n2 w3 hb4 hM4 (by rw [← hn2, mk_size]; unfold maxLen; omega)
          have hgk : g < wr.heap.size := block_lt_of_cell k1
          obtain ⟨xx, yy, hxy⟩ : ∃ xx yy, getV M.now n2.data.toList = .tuple #[.string xx, .bool yy] := ⟨_, _, rfl⟩
          rw [hxy] at hG hgt
          have hgt2 : n1 = n2 → xx = t1 ∧ yy = true := fun hq => by
            have := hgt (btx_inj (by rw [hn1, hn2]; exact hq))
            simp at this
            exact this
          have hmm2 : (n1 ≠ n2 ∨ t1 ≠ t2) → ans = false := fun hq => hmm (hq.imp (fun h e => h (by rw [← hn1, ← hn2, e])) (fun h e => h (by rw [← ht1, ← ht2, e])))
          have hnx2 : n1 = n2 → t1 = t2 → M.now.take (i + 1) = C.take (i + 1) := fun h1 h2 => hnx (btx_inj (by rw [hn1, hn2]; exact h1)) (btx_inj (by rw [ht1, ht2]; exact h2))
          have hG2 := hG.mono (R' := fun e w' => e = .returned (.tuple #[.string xx, .bool yy]) ∧ Box (Below w3.heap.size w3 w')) fun e w' ⟨a, b⟩ => ⟨a, ⟨b⟩⟩
          replace hG2 := Box.mk hG2
          replace hn1 := Box.mk hn1
          replace hn2 := Box.mk hn2
          replace ht1 := Box.mk ht1
          replace ht2 := Box.mk ht2
          replace hrow := Box.mk hrow
          replace hys := Box.mk hys
          replace hst := Box.mk hst
          replace hB3 := Box.mk hB3
          replace hA3 := Box.mk hA3
          replace hgt2 := Box.mk hgt2
          replace hmm2 := Box.mk hmm2
          replace hnx2 := Box.mk hnx2
          clear hG hgt hxy hmm hnx q1 p1 p2 hO3 hb4 hM4 hB hcl d1 d2 hb3
          go_wp2_with (refine wpList_load_mid (cs := [.string n2, .string t2]) rfl 92 (.tmp 22) rfl g2 (i * 2) rfl _ hx.out Tryz.underlying92 rfl (by kernel_rfl) ?_)
          refine hG2.out.mono ?_
          rintro e w4 ⟨rfl, hB4⟩
          clear hG2
          have hsz3 := hA3.out.size
          have z0' : w4.cell? ⟨bs, 0, none⟩ = some (.string n2) := (hB4.out.cell (p := ⟨bs, 0, none⟩) (block_lt_of_cell z0)).trans z0
          have z1' : w4.cell? ⟨bs, 1, none⟩ = some (.string t2) := (hB4.out.cell (p := ⟨bs, 1, none⟩) (block_lt_of_cell z1)).trans z1
          have hE4 : Below wr.heap.size wr w4 := hA3.out.trans (hB4.out.mono hsz3)
          have k4 : w4.cell? ⟨g, i, none⟩ = some (.string n1) := (hE4.cell (p := ⟨g, i, none⟩) hgk).trans k1
          have hB5 : Box (Below w.heap.size w w4) := ⟨hB3.out.trans (hB4.out.mono hB3.out.size)⟩
          replace hE4 := Box.mk hE4
          clear z0 z1 k1 f1 hw3
          have hrow4 : Row w4 9 1 (.slice (some ⟨g, 0, none⟩) N nc) N ys := hrow.out.chg (Chg.of_below hE4.out) fun k hk h => by
            have : g = k := by simpa [Value.ownBlock] using hk
            omega
          by_cases hq : n1 = n2
          · obtain ⟨rfl, rfl⟩ := hgt2.out hq
            by_cases ht : xx = t2
            · have hnx3 := Box.mk (hnx2.out hq ht)
              subst hq
              subst ht
              clear hmm2 hst
              go_wp2_with fail
              refine wp_region_quiet_lit (by kernel_rfl) (by kernel_rfl) ?_
              repeat (go_big_quiet_step (first | exact fun _ => rfl | rfl))
              refine wpQuiet_nil ?_
              rintro w5 ⟨r, rfl⟩
              have hrow5 : Row (w4.drewN r) 9 1 (.slice (some ⟨g, 0, none⟩) N nc) N ys := hrow4.chg (Chg.of_below (below_drewN _ w4 r)) fun k hk h => by
                have : g = k := by simpa [Value.ownBlock] using hk
                have := hE4.out.size
                have h' : w4.heap.size ≤ k := h
                omega
              have f5 := World.ownsRow.frozenAt hrow5 i
              have hst5 := (World.ownsRow.stored hrow5 i (.string { data := #[115, 112, 111, 105, 108, 116] })).1
              have k5 : (w4.drewN r).cell? ⟨g, i, none⟩ = some (.string n1) := k4
              have hS2 : Box (SameL w g nc N M.now (i + 1) ((w4.drewN r).setCell ⟨g, i, none⟩ (.string { data := #[115, 112, 111, 105, 108, 116] }))) := ⟨⟨_, hst5, fun j hj => by
                rw [List.getElem?_set_ne (by omega)]
                exact hys.out j (by omega)⟩, (hB5.out.trans (below_drewN _ w4 r)).setCell (p := ⟨g, i, none⟩) hg'.out _⟩
              clear hst5 hrow5 hrow4 hrow hS
              go_wp2_with fail
              exact ⟨⟨i + 1, by omega, by go_num, hS2, hnx3⟩, by simp [intOf]; omega⟩
            · have hA := hmm2.out (.inr ht)
              subst hA
              subst hq
              have hql := toList_ne ht
              clear hmm2 hst hnx2 hrow4
              go_wp2_with fail
              refine wp_region_quiet_lit (by kernel_rfl) (by kernel_rfl) ?_
              repeat (go_big_quiet_step (first | exact fun _ => rfl | rfl))
              refine wpQuiet_nil ?_
              rintro w5 ⟨r, rfl⟩
              have hB6 : Box (Below w.heap.size w (w4.drewN r)) := ⟨hB5.out.trans (below_drewN _ w4 r)⟩
              go_wp2_with fail
              go_returns
              exact ⟨rfl, hB6⟩
          · have hA := hmm2.out (.inl hq)
            subst hA
            have hql := toList_ne hq
            clear hmm2 hst hnx2 hrow4
            go_wp2_with fail
            refine wp_region_quiet_lit (by kernel_rfl) (by kernel_rfl) ?_
            repeat (go_big_quiet_step (first | exact fun _ => rfl | rfl))
            refine wpQuiet_nil ?_
            rintro w5 ⟨r, rfl⟩
            have hB6 : Box (Below w.heap.size w (w4.drewN r)) := ⟨hB5.out.trans (below_drewN _ w4 r)⟩
            go_wp2_with fail
            go_returns
            exact ⟨rfl, hB6⟩
        · obtain rfl : i = N := by omega
          have hA : ans = true := by
            have h1 := hT.out
            rw [List.take_of_length_le (by rw [hNe.out]; exact Nat.le_refl _), List.take_of_length_le (by rw [hKe.out]; exact Nat.le_refl _)] at h1
            rw [← hans.out]; exact decide_eq_true h1
          subst hA
          have hB := Box.mk hS.out.k
          clear hS
          go_wp2_with fail
          go_returns
          exact ⟨rfl, hB⟩
  · have hA : ans = false := by
      rw [← hans.out]
      exact decide_eq_false fun e => hnk (by rw [← hNe.out, ← hKe.out, e])
    subst hA
    have hnk2 : ((N : Int) == (K : Int)) = false := by simp; omega
    have hnk3 : ¬ ((N : Int) = (K : Int)) := by omega
    clear hrow hown hB1
    go_wp2_with fail
    go_returns
    exact ⟨rfl, hB1'⟩
end Go.Proofs.YtoaipjpbioaneaaGreat

namespace Go.Proofs.YtoaipjpbioaneaaGreat
open Go.RowKit Go.Maps

/-- Operations of the law in a slice that came in. -/
structure OpsAt (w : World) (a : Option Addr) (L : Nat) : Prop where
  out : 0 < L → ∃ cb co, a = some ⟨cb, co, none⟩ ∧ cb < w.heap.size ∧ ∀ i, i < L → ∃ (k : UInt8) (s t : ByteArray) (n : Int) (va : Option Addr) (vl vc : Nat), w.rangeAt cb (co + i * 5) (opC k s t n (.slice va vl vc)) ∧ s.size ≤ maxLen ∧ t.size ≤ maxLen
theorem OpsAt.less {w : World} {a : Option Addr} {L M : Nat} (h : OpsAt w a L) (hM : M ≤ L) : OpsAt w a M := ⟨fun h0 => by
  obtain ⟨cb, co, e, hl, hc⟩ := h.out (by omega)
  exact ⟨cb, co, e, hl, fun i hi => hc i (by omega)⟩⟩
theorem range_below {w w' : World} {g o B : Nat} {cs : List Value} (h : w.rangeAt g o cs) (hb : Below B w w') (hg : g < B) : w'.rangeAt g o cs := fun j u hu => by
  rw [hb.cell (p := ⟨g, o + j, none⟩) hg]; exact h j u hu
section
open Go Go.ChangeShapes Go.WideShapes Go.ChangeAt Go.RowKit Go.ChangeMaps
theorem ops_open {H : Type} {enc : TypeId × Value → H} {w : World} {base : Nat} {held : Bool} {fuel : Nat} {a0 : Option Addr} {l0 c0 : Nat} {x : DataW H × List MemPlace}
    (h : DataW.trod enc Tryz.prog w base (fun _ => true) held fuel 22 [.slice a0 l0 c0] = some x) : OpsAt w a0 l0 ∧ l0 ≤ c0 ∧ c0 ≤ maxLen := by
  rcases Deep.open_slice Tryz.underlying22 h with ⟨h0, _⟩ | ⟨a, len, cap, m, n, D, Pl, e0, hb, hl, hm, hmm, rfl, hx⟩
  · simp at h0
    obtain ⟨rfl, rfl, rfl⟩ := h0
    exact ⟨⟨fun h => by cases h⟩, Nat.le_refl _, Nat.zero_le _⟩
  · simp at e0
    obtain ⟨rfl, rfl, rfl⟩ := e0
    refine ⟨⟨fun h0 => ?_⟩, hl, hm⟩
    simp only [if_true] at hmm
    have z31 : Tryz.prog.cellsOf 31 = 5 := by kernel_rfl
    have each : ∀ i, i < l0 → ∃ (k : UInt8) (s t : ByteArray) (n : Int) (va : Option Addr) (vl vc : Nat), (∀ j u, (opC k s t n (.slice va vl vc))[j]? = some u → w.cell? (a.add (i * 5 + j)) = some u) ∧ s.size ≤ maxLen ∧ t.size ≤ maxLen := by
      intro i hi
      obtain ⟨cs', h1, h2⟩ := hx i (by omega)
      rw [z31] at h1
      obtain ⟨_, hlen, hcell⟩ := World.cells?_some h1
      obtain ⟨k, s, t, n, v, l, rfl, hw, hs, ht, hI, hll⟩ := op04_cells h2
      obtain ⟨va, vl, vc, rfl⟩ : ∃ va vl vc, v = .slice va vl vc := by
        obtain ⟨x, y, e, _⟩ := hI.out
        exact ⟨x, _, y, e⟩
      refine ⟨k, s, t, n, va, vl, vc, fun j u hu => ?_, hs, ht⟩
      have hj : j < 5 := by
        rcases Nat.lt_or_ge j 5 with h | h
        · exact h
        · rw [List.getElem?_eq_none (by simpa [opC] using h)] at hu; cases hu
      have e := hcell j hj
      rw [Deep.add_add] at e
      rw [e]
      simpa [opC] using hu
    obtain ⟨_, _, _, _, _, _, _, hc0, _⟩ := each 0 h0
    have hc0 := hc0 0 _ rfl
    obtain ⟨blk, off, spot⟩ := a
    have hspot : spot = none := by simpa [Addr.add] using World.cell?_spot hc0
    subst hspot
    refine ⟨blk, off, rfl, by simpa [Addr.add] using World.block_lt_of_cell? w _ hc0, fun i hi => ?_⟩
    obtain ⟨k, s, t, n, va, vl, vc, e, r⟩ := each i hi
    refine ⟨k, s, t, n, va, vl, vc, fun j u hu => ?_, r⟩
    have := e j u hu
    rw [Addr.add_lit] at this
    rw [Nat.add_assoc]
    exact this
end
theorem Kept.of {w0 wb w : World} {O : Obj} (h : Kept wb O w) (hb : Below w0.heap.size w0 wb) : Kept w0 O w := by
  obtain ⟨F, h1, h2, h3⟩ := h
  exact ⟨F, h1, fun k hk => Nat.le_trans hb.size (h2 k hk), hb.trans (h3.mono hb.size)⟩
/-- Opened anew: the world with its two cells. -/
def Opened04 (w0 : World) (ba bd bw base half n : Nat) (w : World) : Prop := ∃ bc bq, Kept w0 (AllO ba bd bc bw bq base half (Dev.new n) M0) w
set_option maxHeartbeats 3200000 in
set_option maxRecDepth 100000 in
theorem open04 (w0 w : World) (ba bd bw : Nat) (F G : Nat → Prop) (n base half : Nat) (hB0 : Below w0.heap.size w0 w) (hb : Blk w ba (WorldCells bd bw none none) 41) (hba : w0.heap.size ≤ ba) (hD : DAt w bd F (Dev.new n)) (hQ : QAt w bw G (Dev.new n)) (hF : ∀ k, F k → w0.heap.size ≤ k ∧ k ≠ ba) (hG : ∀ k, G k → w0.heap.size ≤ k ∧ k ≠ ba ∧ ¬ F k) (hn : n ≤ 4096) (h2 : 2 ≤ half) (hin : base + 2 * half ≤ n) :
    Calls Tryz.prog 7 #[.pointer (some ⟨ba, 0, none⟩), .int .i64 (base : Int), .int .i64 (half : Int)] w fun e w' => e = .returned (.bool true) ∧ Box (Opened04 w0 ba bd bw base half n w') := by
  have d0 : w.cell? ⟨ba, 0, none⟩ = some (.pointer (some ⟨bd, 0, none⟩)) := hb.cell 0
  have s0 := Sound.new n base half hn h2 hin
  have hO := Box.mk (open_fit bd F (Dev.new n) base half w hD rfl h2 (by rw [new_len]; omega) M0 s0.opens rfl rfl s0.ok)
  have hX := fun w1 (hB1 : Below w.heap.size w w1) => Box.mk (xopen_zero bw G (Dev.new n) base half w1 (hQ.below hB1) h2 (by rw [new_len]; omega) rfl (Nat.zero_le _) (fun i => by rw [seen_calm (Calm.new n hn)]; exact new_zero n i))
  have hok := Box.mk s0.ok
  replace hX := Box.mk hX
  replace hb := Box.mk hb
  replace hD := Box.mk hD
  replace hQ := Box.mk hQ
  replace hB0 := Box.mk hB0
  clear s0
  go_enter Tryz.func7, Tryz.ntmps7
  go_wp2_with fail
  refine hO.out.mono ?_
  rintro e w1 ⟨bc, rfl, hcel⟩
  have hB1 := hcel.out.1
  have hbk := (hB1.block ba hb.out.lt).trans hb.out
  have d2 : w1.cell? ⟨ba, 2, none⟩ = some (.pointer (some ⟨bw, 0, none⟩)) := (show Blk w1 ba (WorldCells bd bw none none) _ from hbk).cell 2
  have hX1 := hX.out w1 hB1
  replace hB1 := Box.mk hB1
  clear hO d0 hX hbk
  go_wp2_with fail
  refine hX1.out.mono ?_
  rintro e w2 ⟨bq, rfl, hbq, hbq1, hB2⟩
  have hbl := hb.out.lt
  have hk2 : Below w.heap.size w w2 := hB1.out.trans (hB2.mono hB1.out.size)
  have hbk : Blk w2 ba (WorldCells bd bw none none) 41 := (hk2.block ba hbl).trans hb.out
  have d1 : w2.cell? ⟨ba, 1, none⟩ = some (.pointer none) := hbk.cell 1
  have d3 : (w2.setCell ⟨ba, 1, none⟩ (.pointer (some ⟨bc, 0, none⟩))).cell? ⟨ba, 3, none⟩ = some (.pointer none) := (hbk.setCell 1 (.pointer (some ⟨bc, 0, none⟩))).cell 3
  have f1 := hbk.free 1
  have f3 := (hbk.setCell 1 (.pointer (some ⟨bc, 0, none⟩))).free 3
  have hfin : Box (Opened04 w0 ba bd bw base half n ((w2.setCell ⟨ba, 1, none⟩ (.pointer (some ⟨bc, 0, none⟩))).setCell ⟨ba, 3, none⟩ (.pointer (some ⟨bq, 0, none⟩)))) := ⟨by
    have hBl := (hbk.setCell 1 (.pointer (some ⟨bc, 0, none⟩))).setCell 3 (.pointer (some ⟨bq, 0, none⟩))
    have hC3 : Chg (fun k => k = ba) w2 ((w2.setCell ⟨ba, 1, none⟩ (.pointer (some ⟨bc, 0, none⟩))).setCell ⟨ba, 3, none⟩ (.pointer (some ⟨bq, 0, none⟩))) := ((Chg.refl (fun k => k = ba) w2).setCell (p := ⟨ba, 1, none⟩) rfl _).setCell (p := ⟨ba, 3, none⟩) rfl _
    generalize ((w2.setCell ⟨ba, 1, none⟩ (.pointer (some ⟨bc, 0, none⟩))).setCell ⟨ba, 3, none⟩ (.pointer (some ⟨bq, 0, none⟩))) = w3 at hBl hC3
    have hs1 := hB1.out.size
    have hs2 := hB2.size
    have hs3 := hC3.size
    have hs0 := hB0.out.size
    have gD := DevO.good bd (Dev.new n)
    have gC := CelO.good bd bc base half M0
    have hD3 : DevO bd (Dev.new n) w3 F := gD.chg (gD.below hD.out hk2) hC3 fun k hk e => (hF k hk).2 e
    have hQ3 : QO bw (Dev.new n) w3 G := (QO.good _ _).chg ((QO.good _ _).below hQ.out hk2) hC3 fun k hk e => (hG k hk).2.1 e
    have hc1 := hcel.out.2
    have hcl := gC.lt hc1
    have hc3 := gC.chg (gC.below hc1 hB2) hC3 (fun k hk e => by
      have hk' : w.heap.size ≤ k ∧ k < w1.heap.size := hk
      have e' : k = ba := e
      omega)
    have hbqa : bq ≠ ba := by omega
    have hbq3 : Blk w3 bq (XCells bw base half) 36 := hC3.blk hbq hbqa
    have hbq4 : Blk w3 bq [.pointer (some ⟨bw, 0, none⟩), .int .i64 (base : Int), .int .i64 (half : Int), .slice none 0 0, .slice none 0 0, .int .i64 (M0.num : Int), .int .i64 (M0.last : Int), .bool M0.off] 36 := hbq3
    have hq3 : XelO bw bq base half M0 w3 (fun k => k = bq) := ⟨hok.out, ⟨Value.slice none 0 0, Value.slice none 0 0, hbq4, Row.nil w3 _ _, Row.nil w3 _ _, (fun k hk => by simp [Value.ownBlock] at hk), (fun k hk => by simp [Value.ownBlock] at hk)⟩, rfl, fun k hk => by have := hbq3.lt; omega⟩
    have hDl := hD.out.lt
    have hQl := hQ.out.lt
    have hDl3 := gD.lt hD3
    have hQl3 := (QO.good _ _).lt hQ3
    have hbl3 := hBl.lt
    have hbq3l := hbq3.lt
    refine ⟨bc, bq, fun k => k = ba ∨ F k ∨ (w.heap.size ≤ k ∧ k < w1.heap.size) ∨ G k ∨ k = bq, ⟨fun k => k = ba, fun k => F k ∨ (w.heap.size ≤ k ∧ k < w1.heap.size) ∨ G k ∨ k = bq, ⟨hBl, rfl, fun k hk => by omega⟩,
      ⟨fun k => F k ∨ (w.heap.size ≤ k ∧ k < w1.heap.size), fun k => G k ∨ k = bq, ⟨F, _, hD3, hc3, fun k hk hk2 => ?_, fun _ => .inl, fun _ => .inr, fun k hk => ?_⟩, ⟨G, fun k => k = bq, hQ3, hq3, fun k hk hk2 => ?_, fun _ => .inl, fun _ => .inr, fun k hk => ?_⟩, fun k hk hk2 => ?_, fun k hk => ?_, fun k hk => ?_, fun k hk => ?_⟩, fun k hk hk2 => ?_, fun k hk => .inl hk, fun k hk => .inr hk, fun k hk => ?_⟩, fun k hk => ?_, ?_⟩
    · have := hDl k hk
      have h' : w.heap.size ≤ k ∧ k < w1.heap.size := hk2
      omega
    · rcases hk with hk | hk
      · exact hDl3 k hk
      · omega
    · have := hQl k hk
      omega
    · rcases hk with hk | hk
      · exact hQl3 k hk
      · omega
    · rcases hk with hk | hk <;> rcases hk2 with hk2 | hk2
      · exact (hG k hk2).2.2 hk
      · have := hDl k hk; omega
      · have := hQl k hk2; omega
      · omega
    · rcases hk with hk | hk
      · exact .inl hk
      · exact .inr (.inl hk)
    · rcases hk with hk | hk
      · exact .inr (.inr (.inl hk))
      · exact .inr (.inr (.inr hk))
    · rcases hk with hk | hk | hk | hk
      · exact hDl3 k hk
      · omega
      · exact hQl3 k hk
      · omega
    · have hk' : k = ba := hk
      rcases hk2 with hk2 | hk2 | hk2 | hk2
      · exact (hF k hk2).2 hk'
      · omega
      · exact (hG k hk2).2.1 hk'
      · omega
    · rcases hk with hk | hk | hk | hk | hk
      · omega
      · exact hDl3 k hk
      · omega
      · exact hQl3 k hk
      · omega
    · rcases hk with hk | hk | hk | hk | hk
      · omega
      · exact (hF k hk).1
      · omega
      · exact (hG k hk).1
      · omega
    · exact (hB0.out.trans (hk2.mono hs0)).trans (hC3.below (by omega) (fun i hi => by have h' : i = ba := hi; omega))⟩
  clear hX1 hB1 hB2 hk2 hbk hb d2 hcel hbq
  go_wp2_with fail
  go_returns
  exact ⟨rfl, hfin⟩
end Go.Proofs.YtoaipjpbioaneaaGreat

namespace Go.Proofs.YtoaipjpbioaneaaGreat
open Go.RowKit Go.Maps

def stC (base half : Nat) (D : Dev) (k : Nat) (s t : Bs) (M : CellM) : CellM := if k = 3 then { M with now := dropC M.now s } else if k = 4 then { M with now := M.was } else if k = 5 ∨ k = 6 then commitC base half D M else { M with now := putM M.now s t }
def stD (base half : Nat) (D : Dev) (k : Nat) (M : CellM) : Dev := if k = 5 ∨ k = 6 then commitD base half D M else D
/-- What a step makes of a sound cell, whatever its device. -/
def stS (half k : Nat) (s t : Bs) (M : CellM) : CellM := if k = 3 then { M with now := dropC M.now s } else if k = 4 then { M with now := M.was } else if k = 5 ∨ k = 6 then (if (bytesC M.now).length ≤ 64 * (half - 1) then { M with was := M.now, num := M.num + 1, last := 1 - M.last } else M) else { M with now := putM M.now s t }
structure WS (base half n i : Nat) (D : Dev) (M : CellM) : Prop where
  snd : Sound base half D M
  len : D.safe.length = n
  t : D.taken ≤ 20 * i
  f : D.fall = 0
  num : M.num ≤ i
theorem WS.next {base half n i : Nat} {D : Dev} {M : CellM} (h : WS base half n i D M) (hh : half ≤ 10) (hi : i ≤ 100) (k : Nat) (s t : Bs) :
    WS base half n (i + 1) (stD base half D k M) (stC base half D k s t M) ∧ stC base half D k s t M = stS half k s t M ∧ ∀ j, j < base ∨ base + 2 * half ≤ j → (stD base half D k M).safe[j]? = D.safe[j]? := by
  have ht := h.t
  have hn := h.num
  by_cases h56 : k = 5 ∨ k = 6
  · have h3 : k ≠ 3 := by omega
    have h4 : k ≠ 4 := by omega
    have eC : stC base half D k s t M = commitC base half D M := by unfold stC; rw [if_neg h3, if_neg h4, if_pos h56]
    have eD : stD base half D k M = commitD base half D M := by unfold stD; rw [if_pos h56]
    rw [eC, eD]
    by_cases hl : (bytesC M.now).length ≤ 64 * (half - 1)
    · have g := h.snd.goes h.f (by omega) hl
      have hp := pieces_len M.now half hl
      refine ⟨⟨g.sound, by rw [g.len]; exact h.len, by rw [g.taken]; omega, g.fall, by rw [g.c]; show M.num + 1 ≤ _; omega⟩, ?_, g.out⟩
      rw [g.c]; unfold stS; rw [if_neg h3, if_neg h4, if_pos h56, if_pos hl]
    · obtain ⟨l1, l2, l3⟩ := Sound.long (base := base) (D := D) h.snd.off (by omega : 64 * (half - 1) < (bytesC M.now).length)
      rw [l2, l3]
      refine ⟨⟨h.snd, h.len, by omega, h.f, by omega⟩, ?_, fun _ _ => rfl⟩
      unfold stS; rw [if_neg h3, if_neg h4, if_pos h56, if_neg hl]
  · have eD : stD base half D k M = D := by unfold stD; rw [if_neg h56]
    have hS : ∀ c : Ct, c.ok → WS base half n (i + 1) D { M with now := c } := fun c hc => ⟨h.snd.now hc, h.len, by omega, h.f, by show M.num ≤ _; omega⟩
    rw [eD]
    refine ⟨?_, ?_, fun _ _ => rfl⟩
    · unfold stC
      split
      · exact hS _ (h.snd.ok.now.drop _)
      · split
        · exact hS _ h.snd.ok.was
        · first | (rw [if_neg h56]; exact hS _ (h.snd.ok.now.put _ _)) | exact hS _ (h.snd.ok.now.put _ _)
    · unfold stC stS
      split
      · rfl
      · split
        · rfl
        · first | rfl | rw [if_neg h56, if_neg h56]
theorem step_all {wb w : World} {ba bd bc bw bq base half n i : Nat} {D : Dev} {M : CellM} {k : UInt8} {s t : ByteArray} {m : Int} {v : Value} (hK : Kept wb (AllO ba bd bc bw bq base half D M) w) (h : WS base half n i D M) (hin : base + 2 * half ≤ n) (hi : i ≤ 100) (hk : k.toNat % 10 < 7) (hs : s.size ≤ maxLen) (ht : t.size ≤ maxLen) (x y : Int) :
    Calls Tryz.prog 8 #[.pointer (some ⟨ba, 0, none⟩), .agg #[.int .u8 (k.toNat : Int), .string s, .string t, .int .i64 m, v], .int .i64 x, .int .i64 y] w fun e w' => e = .returned (.bool true) ∧ Box (Kept wb (AllO ba bd bc bw bq base half (stD base half D (k.toNat % 10) M) (stC base half D (k.toNat % 10) s.data.toList t.data.toList M)) w') := by
  have ht' := h.t
  have hn' := h.num
  have hws : D.ws.length ≤ 100000 := by rw [h.snd.calm.ws]; exact Nat.zero_le _
  have hlen := h.len
  have hf := h.f
  rcases (show k.toNat % 10 < 3 ∨ k.toNat % 10 = 3 ∨ k.toNat % 10 = 4 ∨ k.toNat % 10 = 5 ∨ k.toNat % 10 = 6 by omega) with h0 | h0 | h0 | h0 | h0
  · have e1 : stD base half D (k.toNat % 10) M = D := by unfold stD; rw [if_neg (by omega)]
    have e2 : stC base half D (k.toNat % 10) s.data.toList t.data.toList M = { M with now := putM M.now s.data.toList t.data.toList } := by unfold stC; rw [if_neg (by omega), if_neg (by omega), if_neg (by omega)]
    rw [e1, e2]; exact step_put hK h0 hs ht x y
  · have e1 : stD base half D (k.toNat % 10) M = D := by unfold stD; rw [if_neg (by omega)]
    have e2 : stC base half D (k.toNat % 10) s.data.toList t.data.toList M = { M with now := dropC M.now s.data.toList } := by unfold stC; rw [if_pos h0]
    rw [e1, e2]; exact step_drop hK h0 hs x y
  · have e1 : stD base half D (k.toNat % 10) M = D := by unfold stD; rw [if_neg (by omega)]
    have e2 : stC base half D (k.toNat % 10) s.data.toList t.data.toList M = { M with now := M.was } := by unfold stC; rw [if_neg (by omega), if_pos h0]
    rw [e1, e2]; exact step_undo hK h0 x y
  · have e1 : stD base half D (k.toNat % 10) M = commitD base half D M := by unfold stD; rw [if_pos (.inl h0)]
    have e2 : stC base half D (k.toNat % 10) s.data.toList t.data.toList M = commitC base half D M := by unfold stC; rw [if_neg (by omega), if_neg (by omega), if_pos (.inl h0)]
    rw [e1, e2]; exact step_commit5 hK h0 (by omega) (by omega) (by omega) hws (by omega) x y
  · have e1 : stD base half D (k.toNat % 10) M = commitD base half D M := by unfold stD; rw [if_pos (.inr h0)]
    have e2 : stC base half D (k.toNat % 10) s.data.toList t.data.toList M = commitC base half D M := by unfold stC; rw [if_neg (by omega), if_neg (by omega), if_pos (.inr h0)]
    rw [e1, e2]; exact step_commit6 hK h0 (by omega) (by omega) (by omega) hws (by omega) x y

/-! ### The program's cell in the law's world -/
theorem Kept.left {w0 w : World} {A B : Obj} (h : Kept w0 (Pair2 A B) w) : Kept w0 A w := by
  obtain ⟨F, ⟨F1, F2, h1, h2, h3, h4, h5, h6⟩, h7, h8⟩ := h
  exact ⟨F1, h1, fun k hk => h7 k (h4 k hk), h8⟩
/-- A call of the program's device and cell, beside the document's and the world. -/
theorem DoesIn.inAll {wb : World} {ba bd bc bw bq base half : Nat} {f : FuncId} {args : Array Value} {v : Value} {D D' : Dev} {M M' : CellM} {X : Obj} (h : DoesIn wb f args (Pair2 (DevO bd D) (CelO bd bc base half M)) (RetE v (Pair2 (DevO bd D') (CelO bd bc base half M')))) (g : Good X) :
    DoesIn wb f args (Pair2 (BlkO ba (WorC bd bc bw bq) 41) (Pair2 (Pair2 (DevO bd D) (CelO bd bc base half M)) X)) (RetE v (Pair2 (BlkO ba (WorC bd bc bw bq) 41) (Pair2 (Pair2 (DevO bd D') (CelO bd bc base half M')) X))) :=
  (h.ret g).ret' (BlkO.good _ _ _)
end Go.Proofs.YtoaipjpbioaneaaGreat

namespace Go.Proofs.YtoaipjpbioaneaaGreat
open Go.RowKit Go.Maps

/-- Rows of pairs that are kept. -/
def RowsO (vn vw : Value) (now was : Ct) : Obj := fun w F => Row w 92 2 vn now.length (pcs now) ∧ Row w 92 2 vw was.length (pcs was) ∧ (∀ k, vn.ownBlock = some k → F k) ∧ (∀ k, vw.ownBlock = some k → F k) ∧ ∀ k, F k → k < w.heap.size
theorem RowsO.good (vn vw : Value) (now was : Ct) : Good (RowsO vn vw now was) where
  lt := fun h => h.2.2.2.2
  chg := fun h hc hn => ⟨h.1.chg hc fun k hk => hn k (h.2.2.1 k hk), h.2.1.chg hc fun k hk => hn k (h.2.2.2.1 k hk), h.2.2.1, h.2.2.2.1, fun k hk => Nat.lt_of_lt_of_le (h.2.2.2.2 k hk) hc.size⟩
  wide := fun h hG hl => ⟨h.1, h.2.1, fun k hk => hG k (h.2.2.1 k hk), fun k hk => hG k (h.2.2.2.1 k hk), hl⟩
/-- Device, cell, the law's world, the rows. -/
def BigO (ba bd bc bw bq base half : Nat) (vn vw : Value) (now was : Ct) (D : Dev) (M : CellM) : Obj := Pair2 (DevO bd D) (Pair2 (CelO bd bc base half M) (Pair2 (BlkO ba (WorC bd bc bw bq) 41) (RowsO vn vw now was)))
section
variable {wb w : World} {ba bd bc bw bq base half : Nat} {vn vw : Value} {now was : Ct} {D : Dev} {M : CellM}
theorem restG : Good (Pair2 (BlkO ba (WorC bd bc bw bq) 41) (RowsO vn vw now was)) := Pair2.good (BlkO.good _ _ _) (RowsO.good _ _ _ _)
theorem BigO.good : Good (BigO ba bd bc bw bq base half vn vw now was D M) := Pair2.good (DevO.good _ _) (Pair2.good (CelO.good _ _ _ _ _) restG)
theorem Kept.big (h : Kept wb (AllO ba bd bc bw bq base half D M) w) : ∃ vn vw, Blk w bq [.pointer (some ⟨bw, 0, none⟩), .int .i64 (base : Int), .int .i64 (half : Int), vn, vw, .int .i64 (M.num : Int), .int .i64 (M.last : Int), .bool M.off] 36 ∧ Kept wb (BigO ba bd bc bw bq base half vn vw M.now M.was D M) w := by
  obtain ⟨F, ⟨F1, F2, hW, ⟨G1, G2, hP, ⟨H1, H2, hQ, hX, x1, x2, x3, x4⟩, y1, y2, y3, y4⟩, z1, z2, z3, z4⟩, k1, k2⟩ := h
  obtain ⟨vn, vw, hb, hn, hw, o1, o2⟩ := hX.out
  have hR : RowsO vn vw M.now M.was w H2 := ⟨hn, hw, o1, o2, hX.lt⟩
  have hall : Pair2 (Pair2 (DevO bd D) (CelO bd bc base half M)) (Pair2 (BlkO ba (WorC bd bc bw bq) 41) (RowsO vn vw M.now M.was)) w F :=
    ⟨G1, fun k => F1 k ∨ H2 k, hP, ⟨F1, H2, hW, hR, fun k hk hk2 => z1 k hk (y3 k (x3 k hk2)), fun _ => .inl, fun _ => .inr, fun k hk => z4 k (hk.elim (z2 k) fun hk => z3 k (y3 k (x3 k hk)))⟩, fun k hk hk2 => hk2.elim (fun hk2 => z1 k hk2 (z3 k (y2 k hk) |> fun _ => y2 k hk)) (fun hk2 => y1 k hk (x3 k hk2)), fun k hk => z3 k (y2 k hk), fun k hk => hk.elim (z2 k) fun hk => z3 k (y3 k (x3 k hk)), z4⟩
  exact ⟨vn, vw, hb, F, Pair2.assoc hall, k1, k2⟩
theorem Kept.bigW (h : Kept wb (BigO ba bd bc bw bq base half vn vw now was D M) w) : Blk w ba (WorC bd bc bw bq) 41 := by
  obtain ⟨F, ⟨_, _, _, ⟨_, _, _, ⟨_, _, h1, _⟩, _⟩, _⟩, _⟩ := h
  exact h1.1
theorem Kept.bigC (h : Kept wb (BigO ba bd bc bw bq base half vn vw now was D M) w) : ∃ G, CelO bd bc base half M w G := by
  obtain ⟨F, ⟨_, _, _, ⟨G, _, h1, _⟩, _⟩, _⟩ := h
  exact ⟨G, h1⟩
theorem Kept.bigR (h : Kept wb (BigO ba bd bc bw bq base half vn vw now was D M) w) : Row w 92 2 vn now.length (pcs now) ∧ Row w 92 2 vw was.length (pcs was) := by
  obtain ⟨F, ⟨_, _, _, ⟨_, _, _, ⟨_, _, _, h1, _⟩, _⟩, _⟩, _⟩ := h
  exact ⟨h1.1, h1.2.1⟩
/-- How a commit ends that the power may cut off. -/
inductive Ends (base half : Nat) (D D' : Dev) (M M' : CellM) : Int → Prop where
  | done : Done D D' base half M.num M.now M.last → Ends base half D D' M M' 0
  | long : D' = D → M' = M → Ends base half D D' M M' 4
  | dark : After D D' base half M.num M.was M.now M.last → M'.off = true → Ends base half D D' M M' 7
theorem big_commit (h : Kept wb (BigO ba bd bc bw bq base half vn vw now was D M) w) (hs : Sound base half D M) (ht : D.taken ≤ 100000) (hf : D.fall ≤ 9223372036854775807) (hn : M.num < 1000000) :
    Calls Tryz.prog 11 #[.pointer (some ⟨bc, 0, none⟩)] w fun e w' => ∃ ee D' M', e = .returned (.int .i64 ee) ∧ Box (Kept wb (BigO ba bd bc bw bq base half vn vw now was D' M') w' ∧ Ends base half D D' M M' ee) := by
  have hC := h.step (((commit_does bd bc base half D M ht hf (by rw [hs.calm.ws]; exact Nat.zero_le _) hn).in_.ret (restG (ba := ba) (bw := bw) (bq := bq) (vn := vn) (vw := vw) (now := now) (was := was))).conv (fun _ _ x => Pair2.assoc' x) fun _ _ _ x => (⟨x.1, Pair2.assoc x.2⟩ : RetE _ (BigO ba bd bc bw bq base half vn vw now was (commitD base half D M) (commitC base half D M)) _ _ _))
  have hoff := hs.off
  by_cases hlong : 64 * (half - 1) < (bytesC M.now).length
  · obtain ⟨l1, l2, l3⟩ := Sound.long (base := base) (D := D) hoff hlong
    rw [l1, l2, l3] at hC
    exact hC.mono fun e w' ⟨he, hk⟩ => ⟨4, D, M, he, ⟨hk.out, .long rfl rfl⟩⟩
  · have eE : commitE base half D M = (commitM D (toC base half M.last) (hdr (M.num + 1) (bytesC M.now).length) (pieces M.now)).1 := by unfold commitE; rw [hoff, if_neg (by decide), if_neg hlong]
    have eD : commitD base half D M = (commitM D (toC base half M.last) (hdr (M.num + 1) (bytesC M.now).length) (pieces M.now)).2 := by unfold commitD; rw [hoff, if_neg (by decide), if_neg hlong]
    rcases commit_cases hs.calm hs.region hs.ok.now hn (by omega) with ⟨h1, h2⟩ | ⟨h1, h3, h2⟩
    · rw [eE, h1] at hC
      rw [← eD] at h2
      exact hC.mono fun e w' ⟨he, hk⟩ => ⟨0, _, _, he, ⟨hk.out, .done h2⟩⟩
    · rw [eE, h1] at hC
      rw [← eD] at h2
      have eO : (commitC base half D M).off = true := by unfold commitC; rw [hoff, if_neg (by decide), if_neg hlong, if_neg (by rw [h1]; decide)]
      exact hC.mono fun e w' ⟨he, hk⟩ => ⟨7, _, _, he, ⟨hk.out, .dark h2 eO⟩⟩
theorem big_fall (h : Kept wb (BigO ba bd bc bw bq base half vn vw now was D M) w) (n : Int) (hn : -9223372036854775808 ≤ n ∧ n ≤ 9223372036854775807) :
    Calls Tryz.prog 10 #[.pointer (some ⟨bd, 0, none⟩), .int .i64 n] w fun e w' => e = .returned (.tuple #[]) ∧ Box (Kept wb (BigO ba bd bc bw bq base half vn vw now was (D.falls n) M) w') :=
  h.step ((fall_does bd D n hn).in_.ret (Pair2.good (CelO.good _ _ _ _ _) restG))
theorem big_crash (h : Kept wb (BigO ba bd bc bw bq base half vn vw now was D M) w) (v : Value) (keep : List Int) (h0 : 0 < D.safe.length) (hws : D.ws.length ≤ 1000000) (hI : Ints wb (fun k => k < wb.heap.size) v keep) (hkl : keep.length ≤ 9223372036854775807) :
    Calls Tryz.prog 12 #[.pointer (some ⟨bd, 0, none⟩), .agg #[v]] w fun e w' => e = .returned (.tuple #[]) ∧ Box (Kept wb (BigO ba bd bc bw bq base half vn vw now was (D.crash keep) M) w') :=
  h.step ((crash_does wb bd D v keep h0 hws hI hkl).ret (Pair2.good (CelO.good _ _ _ _ _) restG))
theorem crash_calm {D : Dev} (h : Calm D) (keep : List Int) : (D.crash keep).safe = D.safe := by
  show settle keep D.safe D.ws = D.safe
  rw [h.ws]; rfl
/-- What the crash leaves behind such a commit: the content that is found. -/
theorem Ends.found {D' : Dev} {M' : CellM} {e : Int} (h : Ends base half D D' M M' e) (hs : Sound base half D M) (keep : List Int) :
    0 < D'.safe.length ∧ D'.safe.length = D.safe.length ∧ D'.ws.length ≤ 1000000 ∧ (e = 0 ∨ e = 4 ∨ e = 7) ∧ ∃ num c last, Sound base half (D'.crash keep) (atM num c last) ∧ ((num = M.num + 1 ∧ c = M.now ∧ e ≠ 4) ∨ (num = M.num ∧ c = M.was ∧ e ≠ 0)) := by
  have hfit := hs.region.fit
  have h2 := hs.region.half2
  have hb := hs.ok.base
  have hh := hs.ok.half
  cases h with
  | done d =>
    refine ⟨by rw [d.len]; omega, d.len, by rw [d.calm.ws]; exact Nat.zero_le _, .inl rfl, M.num + 1, M.now, 1 - M.last, Sound.opened ⟨d.calm.ok.crash keep, rfl, rfl⟩ (by rw [crash_calm d.calm]; exact d.region) hs.ok.now hb hh.2, .inl ⟨rfl, rfl, by decide⟩⟩
  | long e1 e2 =>
    subst e1
    refine ⟨by omega, rfl, by rw [hs.calm.ws]; exact Nat.zero_le _, .inr (.inl rfl), M.num, M.was, M.last, Sound.opened ⟨hs.calm.ok.crash keep, rfl, rfl⟩ (by rw [crash_calm hs.calm]; exact hs.region) hs.ok.was hb hh.2, .inr ⟨rfl, rfl, by decide⟩⟩
  | dark a o =>
    obtain ⟨h1, h3⟩ := a.crash keep
    have hw := a.wsl
    refine ⟨by rw [a.len]; omega, a.len, by omega, .inr (.inr rfl), ?_⟩
    rcases h3 with h3 | h3
    · exact ⟨M.num, M.was, M.last, Sound.opened ⟨a.ok.crash keep, rfl, rfl⟩ h3 hs.ok.was hb hh.2, .inr ⟨rfl, rfl, by decide⟩⟩
    · exact ⟨M.num + 1, M.now, 1 - M.last, Sound.opened ⟨a.ok.crash keep, rfl, rfl⟩ h3 hs.ok.now hb hh.2, .inl ⟨rfl, rfl, by decide⟩⟩
end
end Go.Proofs.YtoaipjpbioaneaaGreat

namespace Go.Proofs.YtoaipjpbioaneaaGreat
open Go.RowKit Go.Maps

theorem Sound.falls {base half : Nat} {D : Dev} {M : CellM} (h : Sound base half D M) (n : Int) : Sound base half (D.falls n) M := ⟨⟨h.calm.ok.falls n, h.calm.off, h.calm.ws⟩, h.region, h.ok, h.off⟩
/-- The cell opened last, beside the one that was cut off, the law's world and the rows. -/
def FinO (ba bd bc bw bq b2 base half : Nat) (vn vw : Value) (now was : Ct) (D : Dev) (M M3 : CellM) : Obj := Pair2 (Pair2 (DevO bd D) (CelO bd b2 base half M3)) (Pair2 (CelO bd bc base half M) (Pair2 (BlkO ba (WorC bd bc bw bq) 41) (RowsO vn vw now was)))
section
variable {wb w : World} {ba bd bc bw bq b2 base half : Nat} {vn vw : Value} {now was : Ct} {D : Dev} {M M3 : CellM}
theorem FinO.good : Good (FinO ba bd bc bw bq b2 base half vn vw now was D M M3) := Pair2.good (Pair2.good (DevO.good _ _) (CelO.good _ _ _ _ _)) (Pair2.good (CelO.good _ _ _ _ _) restG)
theorem Kept.finW (h : Kept wb (FinO ba bd bc bw bq b2 base half vn vw now was D M M3) w) : Blk w ba (WorC bd bc bw bq) 41 := by
  obtain ⟨F, ⟨_, _, _, ⟨_, _, _, ⟨_, _, h1, _⟩, _⟩, _⟩, _⟩ := h
  exact h1.1
theorem Kept.finC (h : Kept wb (FinO ba bd bc bw bq b2 base half vn vw now was D M M3) w) : ∃ G, CelO bd b2 base half M3 w G := by
  obtain ⟨F, ⟨_, _, ⟨_, G, _, h1, _⟩, _⟩, _⟩ := h
  exact ⟨G, h1⟩
theorem Kept.finR (h : Kept wb (FinO ba bd bc bw bq b2 base half vn vw now was D M M3) w) : Row w 92 2 vn now.length (pcs now) ∧ Row w 92 2 vw was.length (pcs was) := by
  obtain ⟨F, ⟨_, _, _, ⟨_, _, _, ⟨_, _, _, h1, _⟩, _⟩, _⟩, _⟩ := h
  exact ⟨h1.1, h1.2.1⟩
theorem Kept.finB (h : Kept wb (FinO ba bd bc bw bq b2 base half vn vw now was D M M3) w) : ∃ bn p, Blk w bc (cellCells bd bn p base half M) 69 := by
  obtain ⟨F, ⟨_, _, _, ⟨_, _, h1, _⟩, _⟩, _⟩ := h
  obtain ⟨bn, p, hb, _⟩ := h1.out
  exact ⟨bn, p, hb⟩
theorem fin_open (h : Kept wb (BigO ba bd bc bw bq base half vn vw now was D M) w) (hs : Sound base half D M3) (he : M3.now = M3.was) (hin : base + 2 * half ≤ D.safe.length) :
    Calls Tryz.prog 13 #[.pointer (some ⟨bd, 0, none⟩), .int .i64 (base : Int), .int .i64 (half : Int)] w fun e w' => ∃ b2, e = .returned (.tuple #[.pointer (some ⟨b2, 0, none⟩), .int .i64 0]) ∧ Box (Kept wb (FinO ba bd bc bw bq b2 base half vn vw now was D M M3) w') :=
  h.opens (Pair2.good (CelO.good _ _ _ _ _) restG) M3 hs.calm.off hs.region.half2 hin hs.opens he hs.off hs.ok
theorem fin_now (h : Kept wb (FinO ba bd bc bw bq b2 base half vn vw now was D M M3) w) (hok : now.ok) :
    Calls Tryz.prog 14 #[.pointer (some ⟨b2, 0, none⟩), vn] w fun e w' => e = .returned (.bool (decide (M3.now = now))) ∧ Box (Kept wb (FinO ba bd bc bw bq b2 base half vn vw now was D M M3) w') := by
  obtain ⟨G, hC⟩ := h.finC
  exact (same_go bd b2 base half M3 G vn now w hC h.finR.1 hok).mono fun e w' ⟨he, hb⟩ => ⟨he, ⟨h.below FinO.good hb.out⟩⟩
theorem fin_was (h : Kept wb (FinO ba bd bc bw bq b2 base half vn vw now was D M M3) w) (hok : was.ok) :
    Calls Tryz.prog 14 #[.pointer (some ⟨b2, 0, none⟩), vw] w fun e w' => e = .returned (.bool (decide (M3.now = was))) ∧ Box (Kept wb (FinO ba bd bc bw bq b2 base half vn vw now was D M M3) w') := by
  obtain ⟨G, hC⟩ := h.finC
  exact (same_go bd b2 base half M3 G vw was w hC h.finR.2 hok).mono fun e w' ⟨he, hb⟩ => ⟨he, ⟨h.below FinO.good hb.out⟩⟩
theorem fin_num (h : Kept wb (FinO ba bd bc bw bq b2 base half vn vw now was D M M3) w) :
    Calls Tryz.prog 9 #[.pointer (some ⟨b2, 0, none⟩)] w fun e w' => e = .returned (.int .i64 (M3.num : Int)) ∧ w = w' := by
  obtain ⟨G, hC⟩ := h.finC
  obtain ⟨bn, p, hb, _⟩ := hC.out
  exact num_any b2 _ _ M3.num _ w hb
theorem fin_off (h : Kept wb (FinO ba bd bc bw bq b2 base half vn vw now was D M M3) w) (ho : M.off = true) :
    Calls Tryz.prog 11 #[.pointer (some ⟨bc, 0, none⟩)] w fun e w' => e = .returned (.int .i64 7) ∧ w = w' := by
  obtain ⟨bn, p, hb⟩ := h.finB
  exact commit_off bc _ w hb (by unfold cellCells; rw [ho]; rfl)
end
end Go.Proofs.YtoaipjpbioaneaaGreat
