/- The program's cell in memory: Drop, Undo; Put, Drop, Undo, Get, Names, Number as calls of a thing. -/
import Derived.Test.YtoaipjpbioaneaaGreatCeF
namespace Go.Proofs.YtoaipjpbioaneaaGreat
open Go.RowKit Go.Maps

theorem drop_none {c : Ct} {n : Bs} (h : getC c n = none) : dropC c n = c := List.filter_eq_self.2 fun p hp => by simpa using getC_none.1 h p hp
set_option maxHeartbeats 3200000 in
theorem drop_map (bc bn : Nat) (cs : List Value) (c : Ct) (s : ByteArray) (w : World) (hb : Blk w bc (.map (some bn) :: cs) 69) (hM : MapAt w bn c) (hs : s.size ≤ maxLen) :
    Calls Tryz.prog 26 #[.pointer (some ⟨bc, 0, none⟩), .string s] w fun e w' => e = .returned (.bool (getC c s.data.toList).isSome) ∧ Box (PutLeft w bn (dropC c s.data.toList) w') := by
  have hbl := hb.lt
  have hG := Box.mk (get_any bc bn cs c s w hb hM hs)
  unfold getV at hG
  obtain ⟨tx, htx⟩ : ∃ tx, btx ((getC c s.data.toList).getD []) = tx := ⟨_, rfl⟩
  obtain ⟨y, hy⟩ : ∃ y, (getC c s.data.toList).isSome = y := ⟨_, rfl⟩
  rw [htx, hy] at hG
  rw [hy]
  replace hb := Box.mk hb
  replace hM := Box.mk hM
  replace hs := Box.mk hs
  replace hbl := Box.mk hbl
  replace hy := Box.mk hy
  clear htx
  go_enter Tryz.func26, Tryz.ntmps26
  go_wp2_with fail
  refine hG.out.mono ?_
  rintro e w1 ⟨rfl, hb1⟩
  have hM1 : Box (MapAt w1 bn c) := ⟨hM.out.below hb1 hM.out.lt⟩
  have c0 : w1.cell? ⟨bc, 0, none⟩ = some (.map (some bn)) := by rw [hb1.cell (p := ⟨bc, 0, none⟩) hbl.out]; exact hb.out.cell 0
  replace hb1 := Box.mk hb1
  clear hG
  cases y with
  | true =>
    go_wp2_with (at_delete; refine wpList_drop rfl _ _ rfl bn c rfl hM1.out s rfl hs.out ?_; intro w6 hM6 hC6)
    have hR : Box (PutLeft w bn (dropC c s.data.toList) w6) := ⟨hM6, ((Chg.of_below hb1.out).mono (T := fun k => k = bn) fun i hi hk => by omega).trans hC6 fun _ _ h => h⟩
    clear hM6 hC6 c0
    go_wp2_with fail
    go_returns
    exact ⟨rfl, hR⟩
  | false =>
    have hR : Box (PutLeft w bn (dropC c s.data.toList) w1) := ⟨by rw [drop_none (by simpa using hy.out)]; exact PutLeft.same hM.out hb1.out⟩
    clear c0
    go_wp2_with fail
    go_returns
    exact ⟨rfl, hR⟩
set_option maxHeartbeats 400000 in
theorem drop_nil (s : ByteArray) (w : World) : Calls Tryz.prog 26 #[.pointer none, .string s] w fun e w' => e = .returned (.bool false) ∧ w = w' := by
  have hG := Box.mk (get_nil s w)
  go_enter Tryz.func26, Tryz.ntmps26
  go_wp2_with fail
  refine hG.out.mono ?_
  rintro e w' ⟨rfl, rfl⟩
  go_wp2_with fail
  go_returns
  exact ⟨rfl, rfl⟩
set_option maxHeartbeats 400000 in
theorem undo_nil (w : World) : Calls Tryz.prog 28 #[.pointer none] w fun e w' => e = .returned (.tuple #[]) ∧ w = w' := by
  go_enter Tryz.func28, Tryz.ntmps28
  go_wp2_with fail
  go_returns
  exact ⟨rfl, rfl⟩
theorem Blk.chg0 {w : World} {b : Nat} {cs : List Value} {t : TypeId} (h : Blk w b cs t) (o : Go.Obj) : Blk (w.alloc o) b cs t := (Below.heap_alloc _ _ _ h.lt).trans h
/-- What Undo leaves: a new map of what was committed. -/
def UndoLeft (w : World) (bc : Nat) (v : Value) (cs : List Value) (was : Ct) (w' : World) : Prop :=
  ∃ b2, w.heap.size ≤ b2 ∧ MapAt w' b2 was ∧ Blk w' bc (.map (some b2) :: v :: cs) 69 ∧ Chg (fun k => k = bc) w w'
set_option maxHeartbeats 3200000 in
set_option maxRecDepth 100000 in
theorem undo_map (bc : Nat) (v : Value) (p : Option Nat) (cs : List Value) (was : Ct) (w : World) (hb : Blk w bc (v :: .map p :: cs) 69) (hW : WasAt w p was) (hp : p ≠ some bc) (hc : was.ok) :
    Calls Tryz.prog 28 #[.pointer (some ⟨bc, 0, none⟩)] w fun e w' => e = .returned (.tuple #[]) ∧ Box (UndoLeft w bc (.map p) cs was w') := by
  have hbl := hb.lt
  have hcn := hc.n
  have hmm := @run_makeMap Tryz.prog
  obtain ⟨wa, hwa⟩ : ∃ wa, w.alloc (.map #[] 0) = wa := ⟨_, rfl⟩
  have hba : Blk wa bc (v :: .map p :: cs) 69 := by rw [← hwa]; exact hb.chg0 _
  have f0 : wa.frozen? ⟨bc, 0, none⟩ = false := hba.free 0
  have c0 : wa.cell? ⟨bc, 0, none⟩ = some v := hba.cell 0
  have hMa : MapAt wa w.heap.size [] := by rw [← hwa]; exact MapAt.new w
  obtain ⟨w1, hw1⟩ : ∃ w1, wa.setCell ⟨bc, 0, none⟩ (.map (some w.heap.size)) = w1 := ⟨_, rfl⟩
  have hbn : Box (Blk w1 bc (.map (some w.heap.size) :: .map p :: cs) 69) := ⟨by rw [← hw1]; exact hba.setCell 0 _⟩
  have hCa : Chg (fun k => k = bc) wa w1 := by rw [← hw1]; exact (Chg.refl (fun k => k = bc) wa).setCell (p := ⟨bc, 0, none⟩) rfl _
  have hM1 : Box (MapAt w1 w.heap.size []) := ⟨hMa.chg hCa (fun e => by omega)⟩
  have hC1 : Box (Chg (fun k => k = bc) w w1) := ⟨by
    have : Chg (fun k => k = bc) w wa := by rw [← hwa]; exact (Chg.refl _ w).alloc _
    exact this.trans hCa fun _ _ h => h⟩
  have hW1 : Box (WasAt w1 p was) := ⟨hW.chg hC1.out fun b hb2 hb3 => hp (by rw [hb2, hb3])⟩
  have hpn : Box (p ≠ some w.heap.size) := ⟨fun e => by have := hW.lt _ e; omega⟩
  have hlw : Box (w.heap.size ≠ bc) := ⟨by omega⟩
  replace hbl := Box.mk hbl
  clear hW hba hMa hCa
  replace hb := Box.mk hb
  replace hc := Box.mk hc
  replace hp := Box.mk hp
  obtain ⟨b2, hb2⟩ : ∃ b2, w.heap.size = b2 := ⟨_, rfl⟩
  rw [hb2] at hbn hM1 hpn hlw hw1
  go_enter Tryz.func28, Tryz.ntmps28
  go_wp2_with fail
  have d0 : w1.cell? ⟨bc, 0, none⟩ = some (.map (some b2)) := hbn.out.cell 0
  have d1 : w1.cell? ⟨bc, 1, none⟩ = some (.map p) := hbn.out.cell 1
  clear hw1 hmm f0 c0 hwa
  refine region_quiet_tail (C := fun w' => ∃ n, w' = w1.drewN n) 8 rfl (by kernel_rfl) ⟨1, rfl⟩ ?_
  simp only [List.take, List.drop]
  repeat (go_big_quiet_step (first | exact fun _ => rfl | rfl))
  refine wpQuiet_nil ?_
  rintro w5 ⟨r, rfl⟩
  have hb5 : Below w1.heap.size w1 (w1.drewN r) := below_drewN _ w1 r
  have hCp := mcopy_opt b2 p was (w1.drewN r) (hM1.out.below hb5 hM1.out.lt) (hW1.out.chg (Chg.of_below hb5) fun b hb6 hb7 => by have := hW1.out.lt b hb6; omega) hpn.out hc.out.rise (by omega)
  have hC5 : Box (Chg (fun k => k = bc) w (w1.drewN r)) := ⟨hC1.out.trans ((Chg.of_below hb5).mono (T := fun k => k = bc) fun i hi hk => by omega) fun _ _ h => h⟩
  have hbn5 : Box (Blk (w1.drewN r) bc (.map (some b2) :: .map p :: cs) 69) := ⟨(hb5.block _ hbn.out.lt).trans hbn.out⟩
  have hbs : Box (w.heap.size ≤ b2) := ⟨by omega⟩
  generalize w1.drewN r = w5 at hCp hC5 hbn5 ⊢
  clear d0 d1 hb5
  replace hCp := Box.mk hCp
  go_wp2_with fail
  refine hCp.out.mono ?_
  rintro e w6 ⟨rfl, hM6, hC6⟩
  have hR : Box (UndoLeft w bc (.map p) cs was w6) := ⟨b2, hbs.out, hM6, hC6.blk hbn5.out (fun e => hlw.out e.symm), hC5.out.trans (hC6.mono (T := fun k => k = bc ∨ k = b2) fun _ _ h => .inr h) fun i hi hk => hk.elim id (fun e => by have := hbs.out; omega)⟩
  clear hM6 hC6 hCp
  go_wp2_with fail
  go_returns
  exact ⟨rfl, hR⟩
end Go.Proofs.YtoaipjpbioaneaaGreat
