/- What the rows of layer 3 share: an operation's cells, read; a slice of integers. -/
import Derived.OpenShut
import Derived.SizedLaws
import Derived.Deep.DeepHandedRow
import Derived.Deep.Slices
import Derived.ChangeMaps5
import Derived.Test.YtcccokdbgmejdaaLaw
import Derived.Test.YtcccokdbgmejdaaFlJ
namespace Go.Proofs.Ytcccokdbgmejdaa
open Go Go.ChangeShapes Go.WideShapes Go.ChangeAt Go.RowKit Go.ChangeMaps

theorem own : ownKnob Try.prog.godebug = none := by kernel_rfl
theorem laidOut : laidOutB Try.prog = true := by kernel_rfl
theorem u8_of {n : Int} (h : (Lit.int .u8 n).wf = true) : ∃ x : UInt8, n = (x.toNat : Int) := by
  have h0 : IntKind.u8.min ≤ n ∧ n ≤ IntKind.u8.max := by simpa [Lit.wf] using h
  have h1 : IntKind.u8.min = 0 := by decide
  have h2 : IntKind.u8.max = 255 := by decide
  exact ⟨UInt8.ofNat n.toNat, by simp [UInt8.toNat_ofNat']; omega⟩
theorem i64_of {n : Int} (h : (Lit.int .i64 n).wf = true) : -9223372036854775808 ≤ n ∧ n ≤ 9223372036854775807 := by
  have h0 : IntKind.i64.min ≤ n ∧ n ≤ IntKind.i64.max := by simpa [Lit.wf] using h
  have h1 : IntKind.i64.min = -9223372036854775808 := by decide
  have h2 : IntKind.i64.max = 9223372036854775807 := by decide
  omega

/-- A slice of integers that came in. -/
theorem ints_open {H : Type} {enc : TypeId × Value → H} {w : World} {base : Nat} {held : Bool} {fuel : Nat} {cs : List Value} {x : DataW H × List MemPlace}
    (h : DataW.trod enc Try.prog w base (fun _ => true) held fuel 28 cs = some x) : ∃ v l, cs = [v] ∧ Ints w (fun k => k < w.heap.size) v l ∧ l.length ≤ maxLen := by
  rcases Deep.open_slice Try.underlying28 h with ⟨h0, _⟩ | ⟨a, len, cap, m, n, D, Pl, rfl, hb, hl, hm, hmm, rfl, hx⟩
  · exact ⟨_, [], h0, ⟨none, 0, rfl, fun h => by cases h⟩, Nat.zero_le _⟩
  · simp only [if_true] at hmm
    have z3 : Try.prog.cellsOf 3 = 1 := by kernel_rfl
    have each : ∀ i, i < len → ∃ q : Int, w.cell? (a.add i) = some (.int .i64 q) := by
      intro i hi
      obtain ⟨cs', h1, h2⟩ := hx i (by omega)
      rw [z3, Nat.mul_one] at h1
      obtain ⟨q, e0, _, _⟩ := DataW.trod_int Try.underlying3 h2
      subst e0
      obtain ⟨_, _, hcell⟩ := World.cells?_some h1
      have := hcell 0 (by simp)
      exact ⟨q, by simpa [Deep.add_add] using this⟩
    refine ⟨_, (List.range len).map fun i => match w.cell? (a.add i) with | some (.int _ q) => q | _ => 0, rfl, ⟨some a, cap, by simp, fun h0 => ?_⟩, by simp; omega⟩
    have hlen : 0 < len := by simpa using h0
    obtain ⟨q0, hc0⟩ := each 0 hlen
    obtain ⟨blk, off, spot⟩ := a
    have hspot : spot = none := by simpa [Addr.add] using World.cell?_spot hc0
    subst hspot
    have hadd : ∀ j, (⟨blk, off, none⟩ : Addr).add j = ⟨blk, off + j, none⟩ := fun j => by
      unfold Addr.add
      split
      · next h => subst h; rfl
      · rfl
    refine ⟨blk, off, rfl, World.block_lt_of_cell? w _ hc0, ?_, fun i hi => ?_⟩
    · have := World.block_lt_of_cell? w _ hc0
      rw [hadd] at this; exact this
    · have hi' : i < len := by simpa using hi
      obtain ⟨q, hq⟩ := each i hi'
      have hq2 := hq
      rw [hadd] at hq2
      rw [hq2]
      simp [List.getD, hi', hq]
theorem op_cells {H : Type} {enc : TypeId × Value → H} {w : World} {base : Nat} {held : Bool} {fuel : Nat} {cs : List Value} {x : DataW H × List MemPlace}
    (h : DataW.trod enc Try.prog w base (fun _ => true) held fuel 32 cs = some x) : ∃ (k : UInt8) (n : Int) (s : ByteArray) (v : Value) (l : List Int), cs = [.int .u8 (k.toNat : Int), .int .i64 n, .string s, v] ∧ (Lit.int .i64 n).wf = true ∧ s.size ≤ maxLen ∧ Ints w (fun k => k < w.heap.size) v l ∧ l.length ≤ maxLen := by
  obtain ⟨xs, m, _, hx, hl, hn, hF⟩ := DataW.trod_struct Try.underlying32 h
  rw [show Try.prog.cellsOf 32 = 4 by kernel_rfl] at hl
  match cs, hl, xs, hn with
  | [c0, c1, c2, c3], _, [x0, x1, x2, x3], _ =>
    have g0 : DataW.trod enc Try.prog w base (fun _ => true) held m 5 (([c0, c1, c2, c3].drop 0).take (Try.prog.cellsOf 5)) = some x0 := hF 0 _ rfl
    have g1 : DataW.trod enc Try.prog w base (fun _ => true) held m 3 (([c0, c1, c2, c3].drop 1).take (Try.prog.cellsOf 3)) = some x1 := hF 1 _ rfl
    have g2 : DataW.trod enc Try.prog w base (fun _ => true) held m 9 (([c0, c1, c2, c3].drop 2).take (Try.prog.cellsOf 9)) = some x2 := hF 2 _ rfl
    have g3 : DataW.trod enc Try.prog w base (fun _ => true) held m 30 (([c0, c1, c2, c3].drop 3).take (Try.prog.cellsOf 30)) = some x3 := hF 3 _ rfl
    have z5 : Try.prog.cellsOf 5 = 1 := by kernel_rfl
    have z3 : Try.prog.cellsOf 3 = 1 := by kernel_rfl
    have z9 : Try.prog.cellsOf 9 = 1 := by kernel_rfl
    have z30 : Try.prog.cellsOf 30 = 1 := by kernel_rfl
    rw [z5] at g0
    rw [z3] at g1
    rw [z9] at g2
    rw [z30] at g3
    obtain ⟨k, e0, y0, w0⟩ := DataW.trod_int Try.underlying5 g0
    obtain ⟨n, e1, y1, w1⟩ := DataW.trod_int Try.underlying3 g1
    obtain ⟨s, e2, y2, w2⟩ := DataW.trod_string Try.underlying9 g2
    obtain ⟨ys, m2, _, _, hl2, hn2, hF2⟩ := DataW.trod_struct Try.underlying30 g3
    obtain ⟨kk, rfl⟩ := u8_of w0
    simp [List.take, List.drop] at e0 e1 e2
    subst e0 e1 e2
    match ys, hn2 with
    | [y], _ =>
      have g4 : DataW.trod enc Try.prog w base (fun _ => true) held m2 28 (((([Value.int .u8 (kk.toNat : Int), .int .i64 n, .string s, c3].drop 3).take 1).drop 0).take (Try.prog.cellsOf 28)) = some y := hF2 0 _ rfl
      rw [show Try.prog.cellsOf 28 = 1 by kernel_rfl] at g4
      obtain ⟨v, l, e4, hI, hll⟩ := ints_open g4
      simp [List.take, List.drop] at e4
      subst e4
      exact ⟨kk, n, s, c3, l, rfl, w1, w2, hI, hll⟩
end Go.Proofs.Ytcccokdbgmejdaa
