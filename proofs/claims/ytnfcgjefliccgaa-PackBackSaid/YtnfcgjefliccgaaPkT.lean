/- What the rows of layer 2 share: an operation's cells, read. -/
import Derived.OpenShut
import Derived.SizedLaws
import Derived.Deep.DeepHandedRow
import Derived.Deep.Slices
import Derived.ChangeMaps5
import Derived.Test.YtnfcgjefliccgaaLaw
import Derived.Test.YtnfcgjefliccgaaPkA
namespace Go.Proofs.Ytnfcgjefliccgaa
open Go Go.ChangeShapes Go.WideShapes Go.ChangeAt Go.RowKit Go.ChangeMaps

theorem own : ownKnob Try.prog.godebug = none := by kernel_rfl
theorem laidOut : laidOutB Try.prog = true := by kernel_rfl
theorem u8_of {n : Int} (h : (Lit.int .u8 n).wf = true) : ∃ x : UInt8, n = (x.toNat : Int) := by
  have h0 : IntKind.u8.min ≤ n ∧ n ≤ IntKind.u8.max := by simpa [Lit.wf] using h
  have h1 : IntKind.u8.min = 0 := by decide
  have h2 : IntKind.u8.max = 255 := by decide
  exact ⟨UInt8.ofNat n.toNat, by simp [UInt8.toNat_ofNat']; omega⟩

theorem op_cells {H : Type} {enc : TypeId × Value → H} {w : World} {base : Nat} {spare : Nat → Bool} {held : Bool} {fuel : Nat} {cs : List Value} {x : DataW H × List MemPlace}
    (h : DataW.trod enc Try.prog w base spare held fuel 31 cs = some x) : ∃ (k : UInt8) (n : Int) (s : ByteArray), cs = [.int .u8 (k.toNat : Int), .int .i64 n, .string s] ∧ (Lit.int .i64 n).wf = true ∧ s.size ≤ maxLen ∧
      x = (.agg [.lit (.int .u8 (k.toNat : Int)), .lit (.int .i64 n), .lit (.string s.data.toList)], []) := by
  obtain ⟨xs, m, _, hx, hl, hn, hF⟩ := DataW.trod_struct Try.underlying31 h
  rw [show Try.prog.cellsOf 31 = 3 by kernel_rfl] at hl
  match cs, hl, xs, hn with
  | [c0, c1, c2], _, [x0, x1, x2], _ =>
    have g0 : DataW.trod enc Try.prog w base spare held m 5 (([c0, c1, c2].drop 0).take (Try.prog.cellsOf 5)) = some x0 := hF 0 _ rfl
    have g1 : DataW.trod enc Try.prog w base spare held m 3 (([c0, c1, c2].drop 1).take (Try.prog.cellsOf 3)) = some x1 := hF 1 _ rfl
    have g2 : DataW.trod enc Try.prog w base spare held m 9 (([c0, c1, c2].drop 2).take (Try.prog.cellsOf 9)) = some x2 := hF 2 _ rfl
    have z5 : Try.prog.cellsOf 5 = 1 := by kernel_rfl
    have z3 : Try.prog.cellsOf 3 = 1 := by kernel_rfl
    have z9 : Try.prog.cellsOf 9 = 1 := by kernel_rfl
    rw [z5] at g0
    rw [z3] at g1
    rw [z9] at g2
    obtain ⟨k, e0, y0, w0⟩ := DataW.trod_int Try.underlying5 g0
    obtain ⟨n, e1, y1, w1⟩ := DataW.trod_int Try.underlying3 g1
    obtain ⟨s, e2, y2, w2⟩ := DataW.trod_string Try.underlying9 g2
    obtain ⟨kk, rfl⟩ := u8_of w0
    simp [List.take, List.drop] at e0 e1 e2 y0 y1 y2
    subst e0 e1 e2 y0 y1 y2
    exact ⟨kk, n, s, rfl, w1, w2, hx⟩

/-- A slice of operations, opened. -/
theorem ops_open {H : Type} {enc : TypeId × Value → H} {w : World} {base : Nat} {held : Bool} {fuel : Nat} {cs : List Value} {x : DataW H × List MemPlace}
    (h : DataW.trod enc Try.prog w base (fun _ => true) held fuel 22 cs = some x) :
    cs = [.slice none 0 0] ∨ ∃ (a : Addr) (len cap : Nat), cs = [.slice (some a) len cap] ∧ len ≤ cap ∧ cap ≤ maxLen ∧
      (0 < len → ∃ cb co, a = ⟨cb, co, none⟩ ∧ cb < w.heap.size ∧ ∀ i, i < len → ∃ (k : UInt8) (n : Int) (s : ByteArray), w.cell? ⟨cb, co + i * 3, none⟩ = some (.int .u8 (k.toNat : Int)) ∧ w.cell? ⟨cb, co + i * 3 + 1, none⟩ = some (.int .i64 n) ∧ w.cell? ⟨cb, co + i * 3 + 2, none⟩ = some (.string s) ∧ (Lit.int .i64 n).wf = true) := by
  rcases Deep.open_slice Try.underlying22 h with ⟨h0, _⟩ | ⟨a, len, cap, m, n, D, Pl, rfl, hb, hl, hm, hmm, rfl, hx⟩
  · exact .inl h0
  · refine .inr ⟨a, len, cap, rfl, hl, hm, fun h0 => ?_⟩
    simp only [if_true] at hmm
    have z31 : Try.prog.cellsOf 31 = 3 := by kernel_rfl
    have each : ∀ i, i < len → ∃ (k : UInt8) (n : Int) (s : ByteArray), w.cell? (a.add (i * 3)) = some (.int .u8 (k.toNat : Int)) ∧ w.cell? (a.add (i * 3 + 1)) = some (.int .i64 n) ∧ w.cell? (a.add (i * 3 + 2)) = some (.string s) ∧ (Lit.int .i64 n).wf = true := by
      intro i hi
      obtain ⟨cs', h1, h2⟩ := hx i (by omega)
      rw [z31] at h1
      obtain ⟨_, hlen, hcell⟩ := World.cells?_some h1
      obtain ⟨k, n, s, rfl, hw, _, _⟩ := op_cells h2
      have e0 := hcell 0 (by omega)
      have e1 := hcell 1 (by omega)
      have e2 := hcell 2 (by omega)
      rw [Deep.add_add] at e0 e1 e2
      exact ⟨k, n, s, by simpa using e0, by simpa using e1, by simpa using e2, hw⟩
    obtain ⟨_, _, _, hc0, _⟩ := each 0 h0
    rw [Nat.zero_mul] at hc0
    obtain ⟨blk, off, spot⟩ := a
    have hspot : spot = none := by simpa [Addr.add] using World.cell?_spot hc0
    subst hspot
    refine ⟨blk, off, rfl, by simpa [Addr.add] using World.block_lt_of_cell? w _ hc0, fun i hi => ?_⟩
    obtain ⟨k, n, s, e0, e1, e2, hw⟩ := each i hi
    have hadd : ∀ j, (⟨blk, off, none⟩ : Addr).add j = ⟨blk, off + j, none⟩ := fun j => by
      unfold Addr.add
      split
      · next h => subst h; rfl
      · rfl
    rw [hadd] at e0 e1 e2
    exact ⟨k, n, s, e0, by rw [Nat.add_assoc]; exact e1, by rw [Nat.add_assoc]; exact e2, hw⟩
theorem i64_of {n : Int} (h : (Lit.int .i64 n).wf = true) : -9223372036854775808 ≤ n ∧ n ≤ 9223372036854775807 := by
  have h0 : IntKind.i64.min ≤ n ∧ n ≤ IntKind.i64.max := by simpa [Lit.wf] using h
  have h1 : IntKind.i64.min = -9223372036854775808 := by decide
  have h2 : IntKind.i64.max = 9223372036854775807 := by decide
  omega
end Go.Proofs.Ytnfcgjefliccgaa
