/- The program's cell: Commit. -/
import Derived.Test.YtoaipjpbioaneaaGreatCeG
namespace Go.Proofs.YtoaipjpbioaneaaGreat
open Go.RowKit Go.Maps

def DevO (bd : Nat) (D : Dev) : Obj := fun w F => DAt w bd F D
theorem DevO.good (bd : Nat) (D : Dev) : Good (DevO bd D) where
  lt := fun h => h.lt
  chg := fun h hc hn => h.chg hc hn
  wide := fun h hG hl => h.wide hG hl
def commitE (base half : Nat) (D : Dev) (M : CellM) : Int :=
  if M.off then 7 else if 64 * (half - 1) < (bytesC M.now).length then 4 else (commitM D (toC base half M.last) (hdr (M.num + 1) (bytesC M.now).length) (pieces M.now)).1
def commitD (base half : Nat) (D : Dev) (M : CellM) : Dev :=
  if M.off then D else if 64 * (half - 1) < (bytesC M.now).length then D else (commitM D (toC base half M.last) (hdr (M.num + 1) (bytesC M.now).length) (pieces M.now)).2
def commitC (base half : Nat) (D : Dev) (M : CellM) : CellM :=
  if M.off then M else if 64 * (half - 1) < (bytesC M.now).length then M
  else if (commitM D (toC base half M.last) (hdr (M.num + 1) (bytesC M.now).length) (pieces M.now)).1 = 0 then { M with was := M.now, num := M.num + 1, last := 1 - M.last } else { M with off := true }
/-- What a cell's call leaves of a device and of a cell. -/
def CellLeft (bd bc base half : Nat) (F : Nat → Prop) (D : Dev) (M : CellM) (G : Nat → Prop) (w w' : World) : Prop :=
  DNext w bd F D w' ∧ CelO bd bc base half M w' (Ext G w w') ∧ Chg (fun k => F k ∨ G k) w w'
set_option maxHeartbeats 400000 in
theorem commit_nil (w : World) : Calls Tryz.prog 11 #[.pointer none] w fun e w' => e = .returned (.int .i64 1) ∧ w = w' := by
  go_enter Tryz.func11, Tryz.ntmps11
  go_wp2_with fail
  go_returns
  exact ⟨rfl, rfl⟩
theorem hdr_ne (n l : Nat) : hdr n l ≠ [] := fun e => by have := hdr_length n l; rw [e] at this; cases this
theorem chg_three (w : World) (b i j k : Nat) (u v x : Value) : Chg (fun q => q = b) w (((w.setCell ⟨b, i, none⟩ u).setCell ⟨b, j, none⟩ v).setCell ⟨b, k, none⟩ x) :=
  (((Chg.refl (fun q => q = b) w).setCell (p := ⟨b, i, none⟩) rfl u).setCell (p := ⟨b, j, none⟩) rfl v).setCell (p := ⟨b, k, none⟩) rfl x
theorem commit_end {w w4 w9 : World} {bd bc : Nat} {F : Nat → Prop} {D : Dev} (hN : DNext w bd F D w4) (hF : ¬ F bc) (hb : bc < w.heap.size) (hC : Chg (fun k => k = bc) w4 w9) : w.heap.size ≤ w4.heap.size ∧ w4.heap.size ≤ w9.heap.size ∧ DAt w9 bd (fun k => F k ∨ (w.heap.size ≤ k ∧ k < w4.heap.size)) D ∧ Chg (fun k => F k ∨ k = bc) w w9 :=
  ⟨hN.chg.size, hC.size, hN.at_.chg hC fun k hk e => by
      rcases hk with hk | hk
      · exact hF (e ▸ hk)
      · omega,
    (hN.chg.mono fun i _ hi => .inl hi).trans (hC.mono fun i _ hi => .inr hi) fun _ _ h => h⟩
/-- What a commit that goes through leaves, and one that is cut off. -/
def CommitPost (bd bc bn : Nat) (p : Option Nat) (base half : Nat) (F : Nat → Prop) (M : CellM) (w : World) (e : Int) (D' : Dev) (w' : World) : Prop :=
  ∃ m, (w.heap.size ≤ m ∧ m ≤ w'.heap.size ∧ DAt w' bd (fun k => F k ∨ (w.heap.size ≤ k ∧ k < m)) D' ∧ Chg (fun k => F k ∨ k = bc) w w') ∧ MapAt w' bn M.now ∧ WasAt w' p M.was ∧
    if e = 0 then ∃ b3, m ≤ b3 ∧ Blk w' bc (cellCells bd bn (some b3) base half { M with was := M.now, num := M.num + 1, last := 1 - M.last }) 69 ∧ MapAt w' b3 M.now
    else Blk w' bc (cellCells bd bn p base half { M with off := true }) 69
set_option maxHeartbeats 6400000 in
set_option maxRecDepth 100000 in
theorem commit_go (bd bc bn : Nat) (p : Option Nat) (base half : Nat) (F : Nat → Prop) (D : Dev) (M : CellM) (w : World) (hD : DAt w bd F D) (hb : Blk w bc (cellCells bd bn p base half M) 69) (hM : MapAt w bn M.now) (hW : WasAt w p M.was)
    (hF : ¬ F bc ∧ ¬ F bn ∧ ∀ b, p = some b → ¬ F b) (hok : M.ok base half) (hoff : M.off = false) (hfit : (bytesC M.now).length ≤ 64 * (half - 1)) (hk : D.taken ≤ 100000) (hf : D.fall ≤ 9223372036854775807) (hws : D.ws.length ≤ 100000) (hnum : M.num < 1000000) :
    Calls Tryz.prog 11 #[.pointer (some ⟨bc, 0, none⟩)] w fun e w' =>
      e = .returned (.int .i64 (commitM D (toC base half M.last) (hdr (M.num + 1) (bytesC M.now).length) (pieces M.now)).1) ∧ Box (CommitPost bd bc bn p base half F M w (commitM D (toC base half M.last) (hdr (M.num + 1) (bytesC M.now).length) (pieces M.now)).1 (commitM D (toC base half M.last) (hdr (M.num + 1) (bytesC M.now).length) (pieces M.now)).2 w') := by
  have hbl := hb.lt
  have hbase := hok.base
  have hhalf := hok.half
  have hlast := hok.last
  obtain ⟨at1, ha1⟩ : ∃ at1, base + M.last * half = at1 := ⟨_, rfl⟩
  obtain ⟨at2, ha2⟩ : ∃ at2, base + (1 - M.last) * half = at2 := ⟨_, rfl⟩
  have hat2 : at2 ≤ 90000 := by
    rw [← ha2]
    rcases (show M.last = 0 ∨ M.last = 1 by omega) with h | h <;> rw [h] <;> simp <;> omega
  have hto : toC base half M.last = at2 := ha2
  obtain ⟨num, hnu⟩ : ∃ num, M.num = num := ⟨_, rfl⟩
  unfold cellCells at hb
  rw [ha1, ha2, hoff, hnu] at hb
  rw [hto, hnu]
  rw [hnu] at hnum
  have hby := Box.mk (cbytes_any bn M.now w hM hok.now)
  obtain ⟨bs, hbs⟩ : ∃ bs, bytesC M.now = bs := ⟨_, rfl⟩
  have hpieces : pieces M.now = cut bs.length bs := by unfold pieces; rw [hbs]
  rw [hbs] at hby hfit
  rw [hbs, hpieces]
  have c5 : w.cell? ⟨bc, 9, none⟩ = some (.bool false) := hb.cell 9
  have c0 : w.cell? ⟨bc, 0, none⟩ = some (.map (some bn)) := hb.cell 0
  replace hb := Box.mk hb
  replace hD := Box.mk hD
  replace hM := Box.mk hM
  replace hW := Box.mk hW
  replace hF := Box.mk hF
  replace hok := Box.mk hok
  replace hoff := Box.mk hoff
  replace hnu := Box.mk hnu
  replace ha1 := Box.mk ha1
  replace ha2 := Box.mk ha2
  replace hto := Box.mk hto
  replace hbs := Box.mk hbs
  replace hpieces := Box.mk hpieces
  go_enter Tryz.func11, Tryz.ntmps11
  go_wp2_with fail
  refine hby.out.mono ?_
  rintro e w1 ⟨rfl, hB1⟩
  have hb1 : Blk w1 bc _ _ := (hB1.out.block _ hbl).trans hb.out
  clear hby c5 c0
  have d6 : w1.cell? ⟨bc, 6, none⟩ = some (.pointer (some ⟨bd, 0, none⟩)) := hb1.cell 6
  have d7 : w1.cell? ⟨bc, 7, none⟩ = some (.int .i64 (at2 : Int)) := hb1.cell 7
  have d8 : w1.cell? ⟨bc, 8, none⟩ = some (.int .i64 (half : Int)) := hb1.cell 8
  have hroom := Box.mk (room_any (.pointer (some ⟨bd, 0, none⟩)) (.int .i64 (at2 : Int)) half w1 (by omega) (by omega))
  have hsz : (btx bs).size = bs.length := mk_size bs
  replace hb1 := Box.mk hb1
  go_wp2_with fail
  refine hroom.out.mono ?_
  rintro e w2 ⟨rfl, hB2⟩
  have hb2 : Blk w2 bc _ _ := (hB2.block _ hb1.out.lt).trans hb1.out
  have hB2' : Box (Below w.heap.size w w2) := ⟨hB1.out.trans (hB2.mono hB1.out.size)⟩
  clear hroom d6 d7 d8 hb1 hB1 hB2
  have d2 : w2.cell? ⟨bc, 2, none⟩ = some (.int .i64 (num : Int)) := hb2.cell 2
  have hlong : ¬ ((half : Int) - 1) * 64 < (bs.length : Int) := by omega
  have hHd := headerBytes_any (num + 1) bs.length w2 (by omega) (by omega)
  rw [show ((num + 1 : Nat) : Int) = (num : Int) + 1 by omega] at hHd
  replace hHd := Box.mk hHd
  replace hb2 := Box.mk hb2
  go_wp2_with fail
  refine hHd.out.mono ?_
  rintro e w3 ⟨rfl, hB3⟩
  have hb3 : Blk w3 bc _ _ := (hB3.out.block _ hb2.out.lt).trans hb2.out
  have hBw : Box (Below w.heap.size w w3) := ⟨hB2'.out.trans (hB3.out.mono hB2'.out.size)⟩
  clear hHd d2 hb2 hB2' hB3
  have d6 : w3.cell? ⟨bc, 6, none⟩ = some (.pointer (some ⟨bd, 0, none⟩)) := hb3.cell 6
  have d7 : w3.cell? ⟨bc, 7, none⟩ = some (.int .i64 (at2 : Int)) := hb3.cell 7
  have d8 : w3.cell? ⟨bc, 8, none⟩ = some (.int .i64 (half : Int)) := hb3.cell 8
  have hPw := Box.mk (pwrite_any bd F D at2 (half : Int) (hdr (num + 1) bs.length) bs w3 (hD.out.below hBw.out) hk hf hws hat2 (hdr_ne _ _) (by rw [hdr_length]; omega) (by omega))
  obtain ⟨e4, he4⟩ : ∃ e4, (commitM D at2 (hdr (num + 1) bs.length) (cut bs.length bs)).1 = e4 := ⟨_, rfl⟩
  obtain ⟨D4, hd4⟩ : ∃ D4, (commitM D at2 (hdr (num + 1) bs.length) (cut bs.length bs)).2 = D4 := ⟨_, rfl⟩
  rw [he4, hd4] at hPw
  have hpost : Box ((commitM D at2 (hdr (num + 1) bs.length) (cut bs.length bs)).1 = e4 ∧ (commitM D at2 (hdr (num + 1) bs.length) (cut bs.length bs)).2 = D4) := ⟨he4, hd4⟩
  replace hb3 := Box.mk hb3
  clear he4 hd4
  by_cases hz : e4 = 0
  · subst hz
    go_wp2_with fail
    refine hPw.out.mono ?_
    rintro e w4 ⟨rfl, hN4⟩
    have hN : Box (DNext w bd F D4 w4) := ⟨DNext.from_ hBw.out hN4.out⟩
    have hb4 : Blk w4 bc _ _ := hN4.out.chg.blk hb3.out hF.out.1
    have hM4 : Box (MapAt w4 bn M.now) := ⟨(hM.out.below hBw.out hM.out.lt).chg hN4.out.chg hF.out.2.1⟩
    have hW4 : Box (WasAt w4 p M.was) := ⟨(hW.out.chg (Chg.of_below hBw.out) fun b hb2 hb3 => by have := hW.out.lt b hb2; omega).chg hN4.out.chg fun b hb2 => hF.out.2.2 b hb2⟩
    have hbl4 := hb4.lt
    clear hPw hN4 d6 d7 d8
    have d2 : w4.cell? ⟨bc, 2, none⟩ = some (.int .i64 (num : Int)) := hb4.cell 2
    have f2 : w4.frozen? ⟨bc, 2, none⟩ = false := hb4.free 2
    obtain ⟨w5, hw5⟩ : ∃ w5, w4.setCell ⟨bc, 2, none⟩ (.int .i64 ((num : Int) + 1)) = w5 := ⟨_, rfl⟩
    have hb5 : Blk w5 bc [.map (some bn), .map p, .int .i64 ((num : Int) + 1), .pointer (some ⟨bd, 0, none⟩), .int .i64 (at1 : Int), .int .i64 (half : Int), .pointer (some ⟨bd, 0, none⟩), .int .i64 (at2 : Int), .int .i64 (half : Int), .bool false] 69 := by rw [← hw5]; exact hb4.setCell 2 _
    have hC5 : Box (Chg (fun k => k = bc) w4 w5) := ⟨by rw [← hw5]; exact (Chg.refl (fun k => k = bc) w4).setCell (p := ⟨bc, 2, none⟩) rfl _⟩
    have hnb : Box (bn ≠ bc) := ⟨hM4.out.ne hb4⟩
    have hbw : Box (bc < w.heap.size) := ⟨hbl⟩
    have hpb : Box (∀ b, p = some b → b ≠ bc) := ⟨fun b hb2 => by
      rcases hW4.out with ⟨h1, _⟩ | ⟨b', h1, h2⟩
      · rw [h1] at hb2; cases hb2
      · rw [h1] at hb2; cases hb2; exact h2.ne hb4⟩
    have hM5 : Box (MapAt w5 bn M.now) := ⟨hM4.out.chg hC5.out hnb.out⟩
    have d0 : w5.cell? ⟨bc, 0, none⟩ = some (.map (some bn)) := hb5.cell 0
    have hCl := Box.mk (mclone_any bn M.now w5 hM5.out)
    replace hb4 := Box.mk hb4
    replace hb5 := Box.mk hb5
    replace hbl4 := Box.mk hbl4
    go_wp2_with fail
    refine hCl.out.mono ?_
    rintro e w6 ⟨rfl, hM6, hB6⟩
    obtain ⟨b3, hb3n⟩ : ∃ b3, w5.heap.size = b3 := ⟨_, rfl⟩
    rw [hb3n] at hM6
    have hb6 : Blk w6 bc _ _ := (hB6.block _ hb5.out.lt).trans hb5.out
    have c1 : w6.cell? ⟨bc, 1, none⟩ = some (.map p) := hb6.cell 1
    have f1 : w6.frozen? ⟨bc, 1, none⟩ = false := hb6.free 1
    obtain ⟨w7, hw7⟩ : ∃ w7, w6.setCell ⟨bc, 1, none⟩ (.map (some b3)) = w7 := ⟨_, rfl⟩
    have hb7 : Blk w7 bc [.map (some bn), .map (some b3), .int .i64 ((num : Int) + 1), .pointer (some ⟨bd, 0, none⟩), .int .i64 (at1 : Int), .int .i64 (half : Int), .pointer (some ⟨bd, 0, none⟩), .int .i64 (at2 : Int), .int .i64 (half : Int), .bool false] 69 := by rw [← hw7]; exact hb6.setCell 1 _
    have hC7 : Box (Chg (fun k => k = bc) w6 w7) := ⟨by rw [← hw7]; exact (Chg.refl (fun k => k = bc) w6).setCell (p := ⟨bc, 1, none⟩) rfl _⟩
    have hC47 : Box (Chg (fun k => k = bc) w4 w7) := ⟨(hC5.out.trans ((Chg.of_below hB6).mono (T := fun k => k = bc) fun i hi hk => by omega) fun _ _ h => h).trans hC7.out fun _ _ h => h⟩
    have hM7 : Box (MapAt w7 b3 M.now) := ⟨hM6.chg hC7.out fun e => by have := hb5.out.lt; omega⟩
    have hb3c : Box (b3 ≠ bc) := ⟨fun e => by have := hb5.out.lt; omega⟩
    have hb3s : Box (w4.heap.size ≤ b3) := ⟨by have h2 := hC5.out.size; omega⟩
    replace hM6 := Box.mk hM6
    replace hB6 := Box.mk hB6
    clear hCl d2 f2 d0 hw5
    replace hb6 := Box.mk hb6
    replace hb7 := Box.mk hb7
    go_wp2_with fail
    clear hw7 c1 f1
    have d3 : w7.cell? ⟨bc, 3, none⟩ = some (.pointer (some ⟨bd, 0, none⟩)) := hb7.out.cell 3
    have d4 : w7.cell? ⟨bc, 4, none⟩ = some (.int .i64 (at1 : Int)) := hb7.out.cell 4
    have d5 : w7.cell? ⟨bc, 5, none⟩ = some (.int .i64 (half : Int)) := hb7.out.cell 5
    have d6 : w7.cell? ⟨bc, 6, none⟩ = some (.pointer (some ⟨bd, 0, none⟩)) := hb7.out.cell 6
    have d7 : w7.cell? ⟨bc, 7, none⟩ = some (.int .i64 (at2 : Int)) := hb7.out.cell 7
    have d8 : w7.cell? ⟨bc, 8, none⟩ = some (.int .i64 (half : Int)) := hb7.out.cell 8
    have f3 : w7.frozen? ⟨bc, 3, none⟩ = false := hb7.out.free 3
    have f4 : w7.frozen? ⟨bc, 4, none⟩ = false := hb7.out.free 4
    have f5 : w7.frozen? ⟨bc, 5, none⟩ = false := hb7.out.free 5
    have f6 : w7.frozen? ⟨bc, 6, none⟩ = false := hb7.out.free 6
    have f7 : w7.frozen? ⟨bc, 7, none⟩ = false := hb7.out.free 7
    have f8 : w7.frozen? ⟨bc, 8, none⟩ = false := hb7.out.free 8
    refine region_go (C := fun _ => True) rfl ?_
    refine go_calms [0, 1, 2, 3, 4, 6, 7, 8] 8 rfl (by kernel_rfl) (by kernel_rfl) (by kernel_rfl) True.intro ?_
    simp [nth]
    try simp only [Act.put]
    repeat (go_big_quiet_step (first | exact fun _ => rfl | rfl))
    refine wpQuiet_nil ?_
    refine go_fork 5 9 (by kernel_rfl) (goOp_wp 5 rfl rfl (fun K hK => ?_)) (goOp_wp 9 rfl rfl (fun K hK => ?_))
    · go_simp
      refine hK _ _ True.intro ?_
      clear hK K
      refine go_forced 9 (by kernel_rfl) (goOp_wp 9 rfl rfl (fun K hK => ?_))
      go_simp
      refine hK _ _ True.intro ?_
      clear hK K
      refine go_calms [10, 11] 4 rfl (by kernel_rfl) (by kernel_rfl) (by kernel_rfl) True.intro ?_
      simp [nth]
      try simp only [Act.put]
      repeat (go_big_quiet_step (first | exact fun _ => rfl | rfl))
      refine wpQuiet_nil ?_
      refine go_forced 12 (by kernel_rfl) (goOp_wp 12 rfl rfl (fun K hK => ?_))
      go_simp
      have hb8 : Blk (((w7.setCell ⟨bc, 3, none⟩ (.pointer (some ⟨bd, 0, none⟩))).setCell ⟨bc, 4, none⟩ (.int .i64 (at2 : Int))).setCell ⟨bc, 5, none⟩ (.int .i64 (half : Int))).drew bc [.map (some bn), .map (some b3), .int .i64 ((num : Int) + 1), .pointer (some ⟨bd, 0, none⟩), .int .i64 (at2 : Int), .int .i64 (half : Int), .pointer (some ⟨bd, 0, none⟩), .int .i64 (at2 : Int), .int .i64 (half : Int), .bool false] 69 := ((hb7.out.setCell 3 _).setCell 4 _).setCell 5 _
      have hC8 : Box (Chg (fun k => k = bc) w7 (((w7.setCell ⟨bc, 3, none⟩ (.pointer (some ⟨bd, 0, none⟩))).setCell ⟨bc, 4, none⟩ (.int .i64 (at2 : Int))).setCell ⟨bc, 5, none⟩ (.int .i64 (half : Int))).drew) := ⟨(chg_three w7 bc 3 4 5 _ _ _).drew⟩
      generalize (((w7.setCell ⟨bc, 3, none⟩ (.pointer (some ⟨bd, 0, none⟩))).setCell ⟨bc, 4, none⟩ (.int .i64 (at2 : Int))).setCell ⟨bc, 5, none⟩ (.int .i64 (half : Int))).drew = w8 at hb8 hC8 ⊢
      refine hK _ _ True.intro ?_
      clear hK K d3 d4 d5 d6 d7 d8 f3 f4 f5 f6 f7 f8
      have d6 : w8.cell? ⟨bc, 6, none⟩ = some (.pointer (some ⟨bd, 0, none⟩)) := hb8.cell 6
      have d7 : w8.cell? ⟨bc, 7, none⟩ = some (.int .i64 (at2 : Int)) := hb8.cell 7
      have d8 : w8.cell? ⟨bc, 8, none⟩ = some (.int .i64 (half : Int)) := hb8.cell 8
      have f6 : w8.frozen? ⟨bc, 6, none⟩ = false := hb8.free 6
      have f7 : w8.frozen? ⟨bc, 7, none⟩ = false := hb8.free 7
      have f8 : w8.frozen? ⟨bc, 8, none⟩ = false := hb8.free 8
      replace hb8 := Box.mk hb8
      try simp only [Act.put]
      refine go_calms [13, 14] 1 rfl (by kernel_rfl) (by kernel_rfl) (by kernel_rfl) True.intro ?_
      simp [nth]
      try simp only [Act.put]
      repeat (go_big_quiet_step (first | exact fun _ => rfl | rfl))
      refine wpQuiet_nil ?_
      refine go_forced 15 (by kernel_rfl) (goOp_wp 15 rfl rfl (fun K hK => ?_))
      go_simp
      have hb9 : Box (Blk (((w8.setCell ⟨bc, 6, none⟩ (.pointer (some ⟨bd, 0, none⟩))).setCell ⟨bc, 7, none⟩ (.int .i64 (at1 : Int))).setCell ⟨bc, 8, none⟩ (.int .i64 (half : Int))) bc [.map (some bn), .map (some b3), .int .i64 ((num : Int) + 1), .pointer (some ⟨bd, 0, none⟩), .int .i64 (at2 : Int), .int .i64 (half : Int), .pointer (some ⟨bd, 0, none⟩), .int .i64 (at1 : Int), .int .i64 (half : Int), .bool false] 69) := ⟨((hb8.out.setCell 6 _).setCell 7 _).setCell 8 _⟩
      have hC9 : Box (Chg (fun k => k = bc) w4 (((w8.setCell ⟨bc, 6, none⟩ (.pointer (some ⟨bd, 0, none⟩))).setCell ⟨bc, 7, none⟩ (.int .i64 (at1 : Int))).setCell ⟨bc, 8, none⟩ (.int .i64 (half : Int)))) := ⟨(hC47.out.trans hC8.out fun _ _ h => h).trans (chg_three w8 bc 6 7 8 _ _ _) fun _ _ h => h⟩
      have hM9 : Box (MapAt (((w8.setCell ⟨bc, 6, none⟩ (.pointer (some ⟨bd, 0, none⟩))).setCell ⟨bc, 7, none⟩ (.int .i64 (at1 : Int))).setCell ⟨bc, 8, none⟩ (.int .i64 (half : Int))) b3 M.now) := ⟨(hM7.out.chg hC8.out hb3c.out).chg (chg_three w8 bc 6 7 8 _ _ _) hb3c.out⟩
      generalize ((w8.setCell ⟨bc, 6, none⟩ (.pointer (some ⟨bd, 0, none⟩))).setCell ⟨bc, 7, none⟩ (.int .i64 (at1 : Int))).setCell ⟨bc, 8, none⟩ (.int .i64 (half : Int)) = w9 at hb9 hC9 hM9 ⊢
      refine hK _ _ True.intro ?_
      clear hK K d6 d7 d8 f6 f7 f8
      refine go_done (by kernel_rfl) ?_
      go_wp2_with fail
      go_returns
      rw [hpost.out.1, hpost.out.2]
      refine ⟨rfl, ⟨_, commit_end hN.out hF.out.1 hbw.out hC9.out, hM4.out.chg hC9.out hnb.out, hW4.out.chg hC9.out hpb.out, ?_⟩⟩
      rw [if_pos rfl]
      refine ⟨b3, hb3s.out, ?_, hM9.out⟩
      unfold cellCells
      simp only
      rw [show base + (1 - M.last) * half = at2 from ha2.out, show 1 - (1 - M.last) = M.last by omega, ha1.out, hnu.out, hoff.out]
      exact hb9.out
    · go_simp
      refine hK _ _ True.intro ?_
      clear hK K
      refine go_forced 5 (by kernel_rfl) (goOp_wp 5 rfl rfl (fun K hK => ?_))
      go_simp
      refine hK _ _ True.intro ?_
      clear hK K
      refine go_calms [10, 11] 4 rfl (by kernel_rfl) (by kernel_rfl) (by kernel_rfl) True.intro ?_
      simp [nth]
      try simp only [Act.put]
      repeat (go_big_quiet_step (first | exact fun _ => rfl | rfl))
      refine wpQuiet_nil ?_
      refine go_forced 12 (by kernel_rfl) (goOp_wp 12 rfl rfl (fun K hK => ?_))
      go_simp
      have hb8 : Blk (((w7.setCell ⟨bc, 3, none⟩ (.pointer (some ⟨bd, 0, none⟩))).setCell ⟨bc, 4, none⟩ (.int .i64 (at2 : Int))).setCell ⟨bc, 5, none⟩ (.int .i64 (half : Int))).drew bc [.map (some bn), .map (some b3), .int .i64 ((num : Int) + 1), .pointer (some ⟨bd, 0, none⟩), .int .i64 (at2 : Int), .int .i64 (half : Int), .pointer (some ⟨bd, 0, none⟩), .int .i64 (at2 : Int), .int .i64 (half : Int), .bool false] 69 := ((hb7.out.setCell 3 _).setCell 4 _).setCell 5 _
      have hC8 : Box (Chg (fun k => k = bc) w7 (((w7.setCell ⟨bc, 3, none⟩ (.pointer (some ⟨bd, 0, none⟩))).setCell ⟨bc, 4, none⟩ (.int .i64 (at2 : Int))).setCell ⟨bc, 5, none⟩ (.int .i64 (half : Int))).drew) := ⟨(chg_three w7 bc 3 4 5 _ _ _).drew⟩
      generalize (((w7.setCell ⟨bc, 3, none⟩ (.pointer (some ⟨bd, 0, none⟩))).setCell ⟨bc, 4, none⟩ (.int .i64 (at2 : Int))).setCell ⟨bc, 5, none⟩ (.int .i64 (half : Int))).drew = w8 at hb8 hC8 ⊢
      refine hK _ _ True.intro ?_
      clear hK K d3 d4 d5 d6 d7 d8 f3 f4 f5 f6 f7 f8
      have d6 : w8.cell? ⟨bc, 6, none⟩ = some (.pointer (some ⟨bd, 0, none⟩)) := hb8.cell 6
      have d7 : w8.cell? ⟨bc, 7, none⟩ = some (.int .i64 (at2 : Int)) := hb8.cell 7
      have d8 : w8.cell? ⟨bc, 8, none⟩ = some (.int .i64 (half : Int)) := hb8.cell 8
      have f6 : w8.frozen? ⟨bc, 6, none⟩ = false := hb8.free 6
      have f7 : w8.frozen? ⟨bc, 7, none⟩ = false := hb8.free 7
      have f8 : w8.frozen? ⟨bc, 8, none⟩ = false := hb8.free 8
      replace hb8 := Box.mk hb8
      try simp only [Act.put]
      refine go_calms [13, 14] 1 rfl (by kernel_rfl) (by kernel_rfl) (by kernel_rfl) True.intro ?_
      simp [nth]
      try simp only [Act.put]
      repeat (go_big_quiet_step (first | exact fun _ => rfl | rfl))
      refine wpQuiet_nil ?_
      refine go_forced 15 (by kernel_rfl) (goOp_wp 15 rfl rfl (fun K hK => ?_))
      go_simp
      have hb9 : Box (Blk (((w8.setCell ⟨bc, 6, none⟩ (.pointer (some ⟨bd, 0, none⟩))).setCell ⟨bc, 7, none⟩ (.int .i64 (at1 : Int))).setCell ⟨bc, 8, none⟩ (.int .i64 (half : Int))) bc [.map (some bn), .map (some b3), .int .i64 ((num : Int) + 1), .pointer (some ⟨bd, 0, none⟩), .int .i64 (at2 : Int), .int .i64 (half : Int), .pointer (some ⟨bd, 0, none⟩), .int .i64 (at1 : Int), .int .i64 (half : Int), .bool false] 69) := ⟨((hb8.out.setCell 6 _).setCell 7 _).setCell 8 _⟩
      have hC9 : Box (Chg (fun k => k = bc) w4 (((w8.setCell ⟨bc, 6, none⟩ (.pointer (some ⟨bd, 0, none⟩))).setCell ⟨bc, 7, none⟩ (.int .i64 (at1 : Int))).setCell ⟨bc, 8, none⟩ (.int .i64 (half : Int)))) := ⟨(hC47.out.trans hC8.out fun _ _ h => h).trans (chg_three w8 bc 6 7 8 _ _ _) fun _ _ h => h⟩
      have hM9 : Box (MapAt (((w8.setCell ⟨bc, 6, none⟩ (.pointer (some ⟨bd, 0, none⟩))).setCell ⟨bc, 7, none⟩ (.int .i64 (at1 : Int))).setCell ⟨bc, 8, none⟩ (.int .i64 (half : Int))) b3 M.now) := ⟨(hM7.out.chg hC8.out hb3c.out).chg (chg_three w8 bc 6 7 8 _ _ _) hb3c.out⟩
      generalize ((w8.setCell ⟨bc, 6, none⟩ (.pointer (some ⟨bd, 0, none⟩))).setCell ⟨bc, 7, none⟩ (.int .i64 (at1 : Int))).setCell ⟨bc, 8, none⟩ (.int .i64 (half : Int)) = w9 at hb9 hC9 hM9 ⊢
      refine hK _ _ True.intro ?_
      clear hK K d6 d7 d8 f6 f7 f8
      refine go_done (by kernel_rfl) ?_
      go_wp2_with fail
      go_returns
      rw [hpost.out.1, hpost.out.2]
      refine ⟨rfl, ⟨_, commit_end hN.out hF.out.1 hbw.out hC9.out, hM4.out.chg hC9.out hnb.out, hW4.out.chg hC9.out hpb.out, ?_⟩⟩
      rw [if_pos rfl]
      refine ⟨b3, hb3s.out, ?_, hM9.out⟩
      unfold cellCells
      simp only
      rw [show base + (1 - M.last) * half = at2 from ha2.out, show 1 - (1 - M.last) = M.last by omega, ha1.out, hnu.out, hoff.out]
      exact hb9.out
  · have hz1 : (e4 == 0) = false := by simpa using hz
    have hz2 : (e4 != 0) = true := by simpa using hz
    replace hz := Box.mk hz
    go_wp2_with fail
    refine hPw.out.mono ?_
    rintro e w4 ⟨rfl, hN4⟩
    have hN : Box (DNext w bd F D4 w4) := ⟨DNext.from_ hBw.out hN4.out⟩
    have hb4 : Blk w4 bc _ _ := hN4.out.chg.blk hb3.out hF.out.1
    have hM4 : Box (MapAt w4 bn M.now) := ⟨(hM.out.below hBw.out hM.out.lt).chg hN4.out.chg hF.out.2.1⟩
    have hW4 : Box (WasAt w4 p M.was) := ⟨(hW.out.chg (Chg.of_below hBw.out) fun b hb2 hb3 => by have := hW.out.lt b hb2; omega).chg hN4.out.chg fun b hb2 => hF.out.2.2 b hb2⟩
    clear hPw hN4 d6 d7 d8
    have d9 : w4.cell? ⟨bc, 9, none⟩ = some (.bool false) := hb4.cell 9
    have f9 : w4.frozen? ⟨bc, 9, none⟩ = false := hb4.free 9
    have hb5 : Box (Blk (w4.setCell ⟨bc, 9, none⟩ (.bool true)) bc [.map (some bn), .map p, .int .i64 (num : Int), .pointer (some ⟨bd, 0, none⟩), .int .i64 (at1 : Int), .int .i64 (half : Int), .pointer (some ⟨bd, 0, none⟩), .int .i64 (at2 : Int), .int .i64 (half : Int), .bool true] 69) := ⟨hb4.setCell 9 _⟩
    have hC5 : Box (Chg (fun k => k = bc) w4 (w4.setCell ⟨bc, 9, none⟩ (.bool true))) := ⟨(Chg.refl (fun k => k = bc) w4).setCell (p := ⟨bc, 9, none⟩) rfl _⟩
    have hnb : Box (bn ≠ bc) := ⟨hM4.out.ne hb4⟩
    have hpb : Box (∀ b, p = some b → b ≠ bc) := ⟨fun b hb2 => by
      rcases hW4.out with ⟨h1, _⟩ | ⟨b', h1, h2⟩
      · rw [h1] at hb2; cases hb2
      · rw [h1] at hb2; cases hb2; exact h2.ne hb4⟩
    have hR : Box (MapAt (w4.setCell ⟨bc, 9, none⟩ (.bool true)) bn M.now ∧ WasAt (w4.setCell ⟨bc, 9, none⟩ (.bool true)) p M.was) := ⟨hM4.out.chg hC5.out hnb.out, hW4.out.chg hC5.out hpb.out⟩
    have hE5 := Box.mk (commit_end hN.out hF.out.1 hbl hC5.out)
    clear hb4
    go_wp2_with fail
    go_returns
    rw [hpost.out.1, hpost.out.2]
    refine ⟨rfl, ⟨_, hE5.out, hR.out.1, hR.out.2, ?_⟩⟩
    rw [if_neg hz.out]
    unfold cellCells
    simp only
    rw [ha1.out, ha2.out, hnu.out]
    exact hb5.out
end Go.Proofs.YtoaipjpbioaneaaGreat
