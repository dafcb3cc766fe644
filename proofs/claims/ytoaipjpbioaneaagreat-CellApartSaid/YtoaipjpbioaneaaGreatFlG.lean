/- slices.Backward over pending writes; undo. -/
import Derived.Test.YtoaipjpbioaneaaGreatFlF
import Derived.Test.YtoaipjpbioaneaaGreatQr
import Derived.RangeFuncBox
import Derived.RangeFuncLeaves
import Derived.Shelf.Abstract
import Derived.TacticsInMore
import Derived.LoopNIn
import Derived.LoopIn
namespace Go.Proofs.YtoaipjpbioaneaaGreat
open Go.RowKit Go.Shelf
attribute [local go_sem] Oper.semAt_some

def noWr : Wr := ⟨0, zeroS, zeroS⟩
/-- A pending write with its number, of a device of N sectors. -/
abbrev Pk (N : Nat) := { x : Nat × Wr // x.2.at' < N ∧ x.2.bef.length = 64 ∧ x.2.aft.length = 64 }
def pkEnc {N : Nat} (x : Pk N) : Array Value := #[.int .i64 (x.1.1 : Int), .agg (Wr.cells x.1.2).toArray]
def okK (N : Nat) (l : List Wr) : Prop := ∀ i, (l.getD i noWr).at' < N ∧ (l.getD i noWr).bef.length = 64 ∧ (l.getD i noWr).aft.length = 64
def pk {N : Nat} (l : List Wr) (h : okK N l) (i : Nat) : Pk N := ⟨(i, l.getD i noWr), h i⟩
/-- The last k, the last one first. -/
def backL {N : Nat} (l : List Wr) (h : okK N l) (k : Nat) : List (Pk N) := (List.range k).map fun j => pk l h (l.length - 1 - j)
theorem backL_succ {N : Nat} (l : List Wr) (h : okK N l) (k : Nat) : backL l h (k + 1) = backL l h k ++ [pk l h (l.length - 1 - k)] := by simp [backL, List.range_succ]
theorem backL_length {N : Nat} (l : List Wr) (h : okK N l) (k : Nat) : (backL l h k).length = k := by simp [backL]

section
variable {P : Program} {w : World} {o : Oper}
theorem exec_alloc (ρ : Operand → Value) (ty : TypeId) (ho : o.op = .alloc ty) (i : TypeInfo) (z : Value) (L : List Value) (hi : P.info? ty = some i) (hz : i.zero = some z) (hL : z.cells = L.toArray) :
    (execOp ρ o).run P w = .ok (.value (.pointer (some ⟨w.heap.size, 0, none⟩))) (w.alloc (.cells L.toArray ty)) := by
  unfold execOp
  simp [ho, Instr.alloc, zeroValue, typeInfo, hi, hz, newVar, newRow, hL]
theorem exec_storeH (ρ : Operand → Value) (ty : TypeId) (x y : Operand) (ho : o.op = .store ty x y) (g off : Nat) (vs : List Value) (hx : ρ x = .pointer (some ⟨g, off, none⟩)) (hy : ρ y = .agg vs.toArray)
    (w' : World) (hr : (storeVar ty ⟨g, off, none⟩ (.agg vs.toArray)).run P w = .ok () w') : (execOp ρ o).run P w = .ok .skip w' := by
  unfold execOp
  simp only [ho, hx, hy, Instr.storeAt, Instr.sureAddr, Sem.run_bind, Sem.run_pure, Result.andThen_ok, hr]
end

set_option maxRecDepth 100000 in
set_option maxHeartbeats 2000000 in
theorem back1_in (F : Fence) (n : Nat) (hf : F.fn 89) (hro : F.round = none) (hn : 1 ≤ n) (l Bs N cap : Nat) (a : Option Addr) (S : Nat → Prop) (pl : List Wr) (hP : okK N pl) (hbig : pl.length ≤ 1000000) (J Jx : List (Pk N) → World → Prop)
    (hY : ∀ pre x W, J pre W → pre.length < pl.length → YieldAt F (n - 1) Tryz.prog l (pkEnc x) W fun e W' =>
      (e = .returned (.bool true) ∧ J (pre ++ [x]) W' ∧ Chg S W W') ∨ (e = .returned (.bool false) ∧ Jx (pre ++ [x]) W'))
    (W : World) (hBs : W.cell? ⟨Bs, 0, none⟩ = some (.slice a pl.length cap)) (hBlt : Bs < W.heap.size) (hBS : ¬ S Bs) (hc : 0 < pl.length → ∃ b, a = some ⟨b, 0, none⟩ ∧ ¬ S b ∧ Hold W b 83 (wrCells pl)) (h0 : J [] W) :
    CallsIn F n Tryz.prog 89 #[.func (.yield l) #[] #[], .pointer (some ⟨Bs, 0, none⟩)] W fun e W' => (∃ v, e = .returned v) ∧
      ((∃ ys, ys = backL pl hP pl.length ∧ J ys W') ∨ (∃ pre, (∃ k, k ≤ pl.length ∧ pre = backL pl hP k) ∧ Jx pre W')) := by
  obtain ⟨M, hM⟩ : ∃ M, pl.length = M := ⟨_, rfl⟩
  have hkc : ∀ (wr : World), Chg S W wr → wr.cell? ⟨Bs, 0, none⟩ = some (.slice a M cap) := fun wr hk => by
    rw [← hM, ← hBs]
    unfold World.cell?
    rw [hk.block Bs hBlt hBS]
  rw [hM] at hbig hBs hc
  replace hkc := Box.mk hkc
  replace hc := Box.mk hc
  replace hM := Box.mk hM
  refine callsIn_of_wp Tryz.func89 rfl hf ?_ hro
  simp only [Tryz.ntmps89, List.size_toArray, List.length_cons, List.length_nil, Nat.reduceAdd, Nat.reduceSub, Array.replicate_succ, Array.replicate_zero, List.push_toArray, List.append_toArray, List.nil_append, List.cons_append]
  gi_wp2
  gi_loopw [3] (fun i wr => ∃ k j : Nat, k + j = M ∧ i = .int .i64 ((j : Int) - 1) ∧ J (backL pl hP k) wr ∧ Box (Chg S W wr))
    (fun i _ => (intOf i + 1).toNat)
  case atStart => exact ⟨0, M, by omega, rfl, h0, ⟨Chg.refl _ _⟩⟩
  case round =>
    obtain ⟨k, j, hkj, rfl, hJs, hnx⟩ := hrel
    have hcs := hkc.out wr hnx.out
    cases j with
    | zero =>
      gi_wp2
      go_end0
      exact ⟨⟨_, rfl⟩, .inl ⟨_, by rw [hM.out, show M = k by omega], hJs⟩⟩
    | succ j =>
      have e1 : ((j + 1 : Nat) : Int) - 1 = (j : Int) := by omega
      rw [e1]
      clear e1
      obtain ⟨b, rfl, hbS, hb⟩ := hc.out (by omega)
      have hb' := hb.chg hnx.out hbS
      have hxx : Box (pk pl hP j = pk pl hP (pl.length - 1 - k)) := ⟨by rw [hM.out, show M - 1 - k = j by omega]⟩
      obtain ⟨fn, tmps, assign, body, hy, hR⟩ := hY _ (pk pl hP j) wr hJs (by rw [backL_length, hM.out]; omega)
      simp only [pkEnc, pk] at hy
      have hr := hb'.range (j * 129) 129
      have hjl : j < pl.length := by rw [hM.out]; omega
      have hoP : okP pl := fun x hx => by
        obtain ⟨i, hi, rfl⟩ := List.getElem_of_mem hx
        have := hP i
        rw [List.getD_eq_getElem?_getD, List.getElem?_eq_getElem hi] at this
        exact this.2
      rw [wrCells_get _ _ hoP hjl] at hr
      have hg : pl[j] = pl.getD j noWr := by rw [List.getD_eq_getElem?_getD, List.getElem?_eq_getElem hjl]; rfl
      rw [hg] at hr
      have hl : (pl.getD j noWr).cells.length = 129 := Wr.cells_length _ (hP j).2.1 (hP j).2.2
      generalize pl.getD j noWr = q at hr hl hy
      replace hr := Box.mk hr
      replace hl := Box.mk hl
      have hjM : j < M := by omega
      clear hg hoP hjl hb hb' hbS
      gi_wp2_with (refine wpListIn_value rfl rfl (exec_load_mid _ 83 (.tmp 15) rfl b (j * 129) rfl (Wr.cells q) _ hr.out Tryz.underlying83 rfl (by rw [sizeW, hl.out])) ?_)
      refine hR.mono ?_
      rintro e W3 (⟨rfl, hJ3, hk3⟩ | ⟨rfl, hJx3⟩)
      · have hk4 := Box.mk (hnx.out.trans hk3 fun _ _ h => h)
        have e2 : Box ((j : Int) - 1 = (j : Int) - 1) := ⟨rfl⟩
        gi_wp2
        go_roundw
        case rel => exact ⟨k + 1, j, by omega, rfl, by rw [backL_succ, ← hxx.out]; exact hJ3, hk4⟩
        case measure => simp [intOf]
      · gi_wp2
        refine bodyPost_ret (results_none rfl _ _ _) rfl ?_
        exact ⟨⟨_, rfl⟩, .inr ⟨_, ⟨k + 1, by rw [hM.out]; omega, by rw [backL_succ, hxx.out]⟩, hJx3⟩⟩
set_option maxHeartbeats 1000000 in
theorem back_in (F : Fence) (n : Nat) (hf : F.fn 65) (hro : F.round = none) (a : Option Addr) (len cap : Nat) (w : World) :
    CallsIn F n Tryz.prog 65 #[.slice a len cap] w fun e w' => e = .returned (.func (.func 89) #[] #[.pointer (some ⟨w.heap.size, 0, none⟩)]) ∧ w' = w.alloc (.cells #[.slice a len cap] 71) := by
  refine callsIn_of_wp Tryz.func65 rfl hf ?_ hro
  simp only [Tryz.ntmps65, List.size_toArray, List.length_cons, List.length_nil, Nat.reduceAdd, Nat.reduceSub, Array.replicate_succ, Array.replicate_zero, List.push_toArray, List.append_toArray, List.nil_append, List.cons_append]
  gi_wp2
  go_ret
  exact ⟨rfl, rfl⟩
theorem back_stops (F : Fence) (n : Nat) (hf : F.fn 89) (hro : F.round = none) (hn : 1 ≤ n) (Bs N cap : Nat) (a : Option Addr) (S : Nat → Prop) (pl : List Wr) (hP : okK N pl) (hbig : pl.length ≤ 1000000)
    (w : World) (hBs : w.cell? ⟨Bs, 0, none⟩ = some (.slice a pl.length cap)) (hBlt : Bs < w.heap.size) (hBS : ¬ S Bs) (hc : 0 < pl.length → ∃ b, a = some ⟨b, 0, none⟩ ∧ ¬ S b ∧ Hold w b 83 (wrCells pl)) :
    SeqStopsK F n Tryz.prog 89 #[.pointer (some ⟨Bs, 0, none⟩)] (pkEnc (N := N)) (Chg S) (fun ys => ys = backL pl hP pl.length) (fun pre => ∃ k, k ≤ pl.length ∧ pre = backL pl hP k) pl.length w := fun l J Jx W hW _ _ hY h0 => by
  refine back1_in F n hf hro hn l Bs N cap a S pl hP hbig J Jx hY W ?_ (Nat.lt_of_lt_of_le hBlt hW.size) hBS (fun h => ?_) h0
  · rw [← hBs]; exact hW.cell (p := ⟨Bs, 0, none⟩) hBlt
  · obtain ⟨b, h1, h2, h3⟩ := hc h
    exact ⟨b, h1, h2, h3.chg (Chg.of_below hW) (by have := h3.lt; omega)⟩

/-- Sectors behind the undoing of some writes. -/
def undoL {N : Nat} (s : List Sec) (pre : List (Pk N)) : List Sec := pre.foldl (fun s x => s.set x.1.2.at' x.1.2.bef) s
theorem undoL_snoc {N : Nat} (s : List Sec) (pre : List (Pk N)) (x : Pk N) : undoL s (pre ++ [x]) = (undoL s pre).set x.1.2.at' x.1.2.bef := by simp [undoL]
theorem undoL_length {N : Nat} (s : List Sec) (pre : List (Pk N)) : (undoL s pre).length = s.length := by
  induction pre generalizing s with
  | nil => rfl
  | cons x pre ih => rw [show undoL s (x :: pre) = undoL (s.set x.1.2.at' x.1.2.bef) pre from rfl, ih]; simp
theorem undoL_ok {N : Nat} {s : List Sec} (h : okS s) (pre : List (Pk N)) : okS (undoL s pre) := by
  induction pre generalizing s with
  | nil => exact h
  | cons x pre ih => exact ih (okS_set h _ x.2.2.1)
theorem undo_all {N : Nat} (s : List Sec) (ws : List WrD) (hw : okW s.length ws) (hP : okK N (pendW s ws)) : ∀ k, k ≤ ws.length → undoL (runW s ws) (backL (pendW s ws) hP k) = runW s (ws.take (ws.length - k))
  | 0, _ => by rw [Nat.sub_zero, List.take_of_length_le (Nat.le_refl _)]; rfl
  | k + 1, hk => by
    have hi : ws.length - 1 - k < ws.length := by omega
    have e : (pendW s ws).getD (ws.length - 1 - k) noWr = ⟨(ws[ws.length - 1 - k]).1, (runW s (ws.take (ws.length - 1 - k))).getD (ws[ws.length - 1 - k]).1 zeroS, (ws[ws.length - 1 - k]).2⟩ := by
      rw [List.getD_eq_getElem?_getD, pendW_get s ws _ hi]; rfl
    rw [backL_succ, undoL_snoc, undo_all s ws hw hP k (by omega), pendW_length]
    simp only [pk, e]
    have h1 := runW_undo s ws (ws.length - 1 - k) hi hw
    rw [show ws.length - 1 - k + 1 = ws.length - k by omega] at h1
    rw [h1, show ws.length - (k + 1) = ws.length - 1 - k by omega]
theorem okK_pend {N : Nat} (s : List Sec) (ws : List WrD) (hs : okS s) (hw : okW s.length ws) (hN : N = s.length) (h0 : 0 < N) : okK N (pendW s ws) := fun i => by
  subst hN
  by_cases hi : i < ws.length
  · have e : (pendW s ws).getD i noWr = ⟨(ws[i]).1, (runW s (ws.take i)).getD (ws[i]).1 zeroS, (ws[i]).2⟩ := by
      rw [List.getD_eq_getElem?_getD, pendW_get s ws _ hi]; rfl
    rw [e]
    have := hw _ (List.getElem_mem hi)
    exact ⟨this.1, okS_getD (okS_runW hs (okW_take hw i)) _, this.2⟩
  · have e : (pendW s ws).getD i noWr = noWr := by
      rw [List.getD_eq_getElem?_getD, List.getElem?_eq_none (by rw [pendW_length]; omega)]; rfl
    rw [e]
    exact ⟨h0, zeroS_length, zeroS_length⟩
end Go.Proofs.YtoaipjpbioaneaaGreat
