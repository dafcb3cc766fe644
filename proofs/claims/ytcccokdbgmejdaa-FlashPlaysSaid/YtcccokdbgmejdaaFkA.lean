/- What the law FlashKeeps keeps. -/
import Derived.Test.YtcccokdbgmejdaaFlT
import Derived.Test.YtcccokdbgmejdaaFtA
namespace Go.Proofs.Ytcccokdbgmejdaa
open Go.RowKit

/-- Operations in a slice that came in. -/
structure OpsAt (w : World) (a : Option Addr) (L : Nat) : Prop where
  out : 0 < L → ∃ cb co, a = some ⟨cb, co, none⟩ ∧ cb < w.heap.size ∧ ∀ i, i < L → ∃ (k : UInt8) (n : Int) (s : ByteArray) (v : Value) (l : List Int), w.cell? ⟨cb, co + i * 4, none⟩ = some (.int .u8 (k.toNat : Int)) ∧ w.cell? ⟨cb, co + i * 4 + 1, none⟩ = some (.int .i64 n) ∧ w.cell? ⟨cb, co + i * 4 + 2, none⟩ = some (.string s) ∧ w.cell? ⟨cb, co + i * 4 + 3, none⟩ = some v ∧
    (-9223372036854775808 ≤ n ∧ n ≤ 9223372036854775807) ∧ s.size ≤ 9223372036854775807 ∧ Ints w (fun k => k < w.heap.size) v l ∧ l.length ≤ 9223372036854775807
theorem OpsAt.less {w : World} {a : Option Addr} {L M : Nat} (h : OpsAt w a L) (hM : M ≤ L) : OpsAt w a M := ⟨fun h0 => by
  obtain ⟨cb, co, e, hl, hc⟩ := h.out (by omega)
  exact ⟨cb, co, e, hl, fun i hi => hc i (by omega)⟩⟩
section
open Go Go.ChangeShapes Go.WideShapes Go.ChangeAt Go.RowKit Go.ChangeMaps
theorem ops_open {H : Type} {enc : TypeId × Value → H} {w : World} {base : Nat} {held : Bool} {fuel : Nat} {a0 : Option Addr} {l0 c0 : Nat} {x : DataW H × List MemPlace}
    (h : DataW.trod enc Try.prog w base (fun _ => true) held fuel 22 [.slice a0 l0 c0] = some x) : OpsAt w a0 l0 ∧ l0 ≤ c0 ∧ c0 ≤ maxLen := by
  rcases Deep.open_slice Try.underlying22 h with ⟨h0, _⟩ | ⟨a, len, cap, m, n, D, Pl, e0, hb, hl, hm, hmm, rfl, hx⟩
  · simp at h0
    obtain ⟨rfl, rfl, rfl⟩ := h0
    exact ⟨⟨fun h => by cases h⟩, Nat.le_refl _, Nat.zero_le _⟩
  · simp at e0
    obtain ⟨rfl, rfl, rfl⟩ := e0
    refine ⟨⟨fun h0 => ?_⟩, hl, hm⟩
    simp only [if_true] at hmm
    have z31 : Try.prog.cellsOf 32 = 4 := by kernel_rfl
    have each : ∀ i, i < l0 → ∃ (k : UInt8) (n : Int) (s : ByteArray) (v : Value) (l : List Int), w.cell? (a.add (i * 4)) = some (.int .u8 (k.toNat : Int)) ∧ w.cell? (a.add (i * 4 + 1)) = some (.int .i64 n) ∧ w.cell? (a.add (i * 4 + 2)) = some (.string s) ∧ w.cell? (a.add (i * 4 + 3)) = some v ∧
        (-9223372036854775808 ≤ n ∧ n ≤ 9223372036854775807) ∧ s.size ≤ 9223372036854775807 ∧ Ints w (fun k => k < w.heap.size) v l ∧ l.length ≤ 9223372036854775807 := by
      intro i hi
      obtain ⟨cs', h1, h2⟩ := hx i (by omega)
      rw [z31] at h1
      obtain ⟨_, hlen, hcell⟩ := World.cells?_some h1
      obtain ⟨k, n, s, v, l, rfl, hw, hs, hI, hll⟩ := op_cells h2
      have e0 := hcell 0 (by omega)
      have e1 := hcell 1 (by omega)
      have e2 := hcell 2 (by omega)
      have e3 := hcell 3 (by omega)
      rw [Deep.add_add] at e0 e1 e2 e3
      unfold maxLen at hs hll
      exact ⟨k, n, s, v, l, by simpa using e0, by simpa using e1, by simpa using e2, by simpa using e3, i64_of hw, by omega, hI, by omega⟩
    obtain ⟨_, _, _, _, _, hc0, _⟩ := each 0 h0
    rw [Nat.zero_mul] at hc0
    obtain ⟨blk, off, spot⟩ := a
    have hspot : spot = none := by simpa [Addr.add] using World.cell?_spot hc0
    subst hspot
    refine ⟨blk, off, rfl, by simpa [Addr.add] using World.block_lt_of_cell? w _ hc0, fun i hi => ?_⟩
    obtain ⟨k, n, s, v, l, e0, e1, e2, e3, r⟩ := each i hi
    rw [Addr.add_mid] at e0 e1 e2 e3
    exact ⟨k, n, s, v, l, e0, by rw [Nat.add_assoc]; exact e1, by rw [Nat.add_assoc]; exact e2, by rw [Nat.add_assoc]; exact e3, r⟩
end
section
variable {P : Program} {w : World} {ops : Array Oper} {rest : List Oper} {o : Oper} {a : Act} {Q : Exit → Act → World → Prop}
theorem wpList_min (hgd : o.guard = none) (x y : Operand) (t : TypeId) (ho : o.op = .call { callee := .builtin .min, args := #[x, y], argTypes := #[t, t] }) (i j m : Int) (hx : a.eval x = .int .i64 i) (hy : a.eval y = .int .i64 j) (hm : (if j < i then j else i) = m)
    (k : wpList P ops Q rest (a.put o.dst (.int .i64 m)) w) : wpList P ops Q (o :: rest) a w := by
  refine wpList_plain hgd fun K hK => ?_
  have hk := hK _ _ k
  rw [← hm] at hk
  unfold Oper.wp execOp
  simp only [ho, resolve, invoke]
  simp [hx, hy, builtin, run_min_int2, Result.andThen]
  exact hk
end
/-- A device behind some writes of sectors that are there: S is what was safe. -/
structure FK (S : List Sec) (i c : Nat) (D : Dev) : Prop where
  s : D.safe = S
  n : S.length = 20
  w : D.ws.length ≤ i
  t : D.taken ≤ i + c
  f : D.fall = 0
  o : D.off = false
theorem FK.write {S : List Sec} {i c : Nat} {D : Dev} (h : FK S i c D) (q : Nat) (hq : q < 20) (t : List UInt8) (ht : t.length ≤ 64) : D.writeE q t = 0 ∧ (D.write q t).ws = D.ws ++ [(q, padS t)] ∧ FK S (i + 1) c (D.write q t) := by
  have hr : D.refused q = 0 := by unfold Dev.refused; rw [h.o, if_neg (by simp), if_neg (by rw [h.s, h.n]; omega)]
  have hg : D.goes = true := by unfold Dev.goes; rw [h.f]; rfl
  have hz : ¬ D.refused q ≠ 0 := fun h => h hr
  have h64 : ¬ 64 < t.length := by omega
  unfold Dev.writeE Dev.write
  simp only [if_neg hz, if_neg h64, if_pos hg]
  have hS : D.stepD = { D with fall := D.fall - 1, taken := D.taken + 1 } := by unfold Dev.stepD; rw [if_neg (by rw [h.f]; omega)]
  refine ⟨trivial, rfl, ⟨by rw [hS]; exact h.s, h.n, ?_, ?_, ?_, ?_⟩⟩
  · simp; exact h.w
  · rw [hS]; have := h.t; simp only; omega
  · rw [hS]; simp only; rw [h.f]
  · rw [hS]; exact h.o
theorem FK.barrier {S : List Sec} {i c : Nat} {D : Dev} (h : FK S i c D) : D.barrierE = 0 ∧ D.barrier.ws = [] ∧ FK D.seen 0 (i + c + 1) D.barrier := by
  have hg : D.goes = true := by unfold Dev.goes; rw [h.f]; rfl
  have hS : D.stepD = { D with fall := D.fall - 1, taken := D.taken + 1 } := by unfold Dev.stepD; rw [if_neg (by rw [h.f]; omega)]
  unfold Dev.barrierE Dev.barrier
  simp only [h.o, Bool.false_eq_true, if_false, if_pos hg]
  rw [hS]
  have ht := h.t
  have hf := h.f
  exact ⟨trivial, trivial, ⟨rfl, by rw [Dev.ok.seen_len, h.s, h.n], Nat.le_refl _, by simp only; omega, by simp only; omega, h.o⟩⟩
theorem FK.wide {S : List Sec} {i c c' : Nat} {D : Dev} (h : FK S i c D) (hc : c ≤ c') : FK S i c' D := ⟨h.s, h.n, h.w, by have := h.t; omega, h.f, h.o⟩
/-- What wasn't written since is as it was. -/
theorem settleN_other (keep : List Int) (s : List Sec) (ws : List WrD) (n : Nat) (h : ∀ x ∈ ws, x.1 ≠ n) : ∀ i, (settleN keep s ws i).getD n zeroS = s.getD n zeroS
  | 0 => rfl
  | i + 1 => by
    have ih := settleN_other keep s ws n h i
    unfold settleN
    split
    · next x hx =>
      unfold lay1
      rw [List.getD_eq_getElem?_getD, List.getElem?_set_ne (h x (List.mem_of_getElem? hx)), ← List.getD_eq_getElem?_getD]
      exact ih
    · exact ih
end Go.Proofs.Ytcccokdbgmejdaa
