/- What the rows of layer 4 share: slices of integers, of strings and of bytes that came in, a fate. -/
import Derived.OpenShut
import Derived.SizedLaws
import Derived.Deep.DeepHandedRow
import Derived.Deep.Slices
import Derived.ChangeMaps5
import Derived.Test.YtoaipjpbioaneaaGreatLaw
import Derived.Test.YtoaipjpbioaneaaGreatCeT
namespace Go.Proofs.YtoaipjpbioaneaaGreat
open Go Go.ChangeShapes Go.WideShapes Go.ChangeAt Go.RowKit Go.ChangeMaps

theorem own : ownKnob Tryz.prog.godebug = none := by kernel_rfl
theorem laidOut : laidOutB Tryz.prog = true := by kernel_rfl
theorem u8_of {n : Int} (h : (Lit.int .u8 n).wf = true) : ∃ x : UInt8, n = (x.toNat : Int) := by
  have h0 : IntKind.u8.min ≤ n ∧ n ≤ IntKind.u8.max := by simpa [Lit.wf] using h
  have h1 : IntKind.u8.min = 0 := by decide
  have h2 : IntKind.u8.max = 255 := by decide
  exact ⟨UInt8.ofNat n.toNat, by simp [UInt8.toNat_ofNat']; omega⟩
theorem i64_of {n : Int} (h : (Lit.int .i64 n).wf = true) : -9223372036854775808 ≤ n ∧ n ≤ 9223372036854775807 := by
  have h0 : IntKind.i64.min ≤ n ∧ n ≤ IntKind.i64.max := by simpa [Lit.wf] using h
  have h1 : IntKind.i64.min = -9223372036854775808 := by decide
  have h2 : IntKind.i64.max = 9223372036854775807 := by decide
  omega
/-- A slice of integers that came in. -/
theorem ints_open {H : Type} {enc : TypeId × Value → H} {w : World} {base : Nat} {held : Bool} {fuel : Nat} {cs : List Value} {x : DataW H × List MemPlace}
    (h : DataW.trod enc Tryz.prog w base (fun _ => true) held fuel 23 cs = some x) : ∃ v l, cs = [v] ∧ Ints w (fun k => k < w.heap.size) v l ∧ l.length ≤ maxLen := by
  rcases Deep.open_slice Tryz.underlying23 h with ⟨h0, _⟩ | ⟨a, len, cap, m, n, D, Pl, rfl, hb, hl, hm, hmm, rfl, hx⟩
  · exact ⟨_, [], h0, ⟨none, 0, rfl, fun h => by cases h⟩, Nat.zero_le _⟩
  · simp only [if_true] at hmm
    have z3 : Tryz.prog.cellsOf 3 = 1 := by kernel_rfl
    have each : ∀ i, i < len → ∃ q : Int, w.cell? (a.add i) = some (.int .i64 q) := by
      intro i hi
      obtain ⟨cs', h1, h2⟩ := hx i (by omega)
      rw [z3, Nat.mul_one] at h1
      obtain ⟨q, e0, _, _⟩ := DataW.trod_int Tryz.underlying3 h2
      subst e0
      obtain ⟨_, _, hcell⟩ := World.cells?_some h1
      have := hcell 0 (by simp)
      exact ⟨q, by simpa [Deep.add_add] using this⟩
    refine ⟨_, (List.range len).map fun i => match w.cell? (a.add i) with | some (.int _ q) => q | _ => 0, rfl, ⟨some a, cap, by simp, fun h0 => ?_⟩, by simp; omega⟩
    have hlen : 0 < len := by simpa using h0
    obtain ⟨q0, hc0⟩ := each 0 hlen
    obtain ⟨blk, off, spot⟩ := a
    have hspot : spot = none := by simpa [Addr.add] using World.cell?_spot hc0
    subst hspot
    have hadd : ∀ j, (⟨blk, off, none⟩ : Addr).add j = ⟨blk, off + j, none⟩ := fun j => by
      unfold Addr.add
      split
      · next h => subst h; rfl
      · rfl
    refine ⟨blk, off, rfl, World.block_lt_of_cell? w _ hc0, ?_, fun i hi => ?_⟩
    · have := World.block_lt_of_cell? w _ hc0
      rw [hadd] at this; exact this
    · have hi' : i < len := by simpa using hi
      obtain ⟨q, hq⟩ := each i hi'
      have hq2 := hq
      rw [hadd] at hq2
      rw [hq2]
      simp [List.getD, hi', hq]
/-- Rows of cells that came in: each cell is what P says. -/
structure RowIn (w : World) (a : Option Addr) (L : Nat) (P : Nat → Value → Prop) : Prop where
  out : 0 < L → ∃ cb co, a = some ⟨cb, co, none⟩ ∧ cb < w.heap.size ∧ ∀ i, i < L → ∃ v, w.cell? ⟨cb, co + i, none⟩ = some v ∧ P i v
theorem RowIn.less {w : World} {a : Option Addr} {L M : Nat} {P : Nat → Value → Prop} (h : RowIn w a L P) (hM : M ≤ L) : RowIn w a M P := ⟨fun h0 => by
  obtain ⟨cb, co, e, hl, hc⟩ := h.out (by omega)
  exact ⟨cb, co, e, hl, fun i hi => hc i (by omega)⟩⟩
theorem RowIn.below {w w' : World} {a : Option Addr} {L : Nat} {P : Nat → Value → Prop} (h : RowIn w a L P) (hB : Below w.heap.size w w') : RowIn w' a L P := ⟨fun h0 => by
  obtain ⟨cb, co, e, hl, hc⟩ := h.out h0
  exact ⟨cb, co, e, Nat.lt_of_lt_of_le hl hB.size, fun i hi => by
    obtain ⟨v, h1, h2⟩ := hc i hi
    exact ⟨v, by rw [hB.cell (p := ⟨cb, co + i, none⟩) hl]; exact h1, h2⟩⟩⟩
theorem RowIn.of {w : World} {a : Addr} {L : Nat} {P : Nat → Value → Prop} (h : ∀ i, i < L → ∃ v, w.cell? (a.add i) = some v ∧ P i v) : RowIn w (some a) L P := ⟨fun h0 => by
  obtain ⟨v0, hc0, _⟩ := h 0 h0
  obtain ⟨blk, off, spot⟩ := a
  have hspot : spot = none := by simpa [Addr.add] using World.cell?_spot hc0
  subst hspot
  have hadd : ∀ j, (⟨blk, off, none⟩ : Addr).add j = ⟨blk, off + j, none⟩ := fun j => by
    unfold Addr.add
    split
    · next h => subst h; rfl
    · rfl
  refine ⟨blk, off, rfl, ?_, fun i hi => ?_⟩
  · have := World.block_lt_of_cell? w _ hc0
    rw [hadd] at this; exact this
  · obtain ⟨v, h1, h2⟩ := h i hi
    rw [hadd] at h1
    exact ⟨v, h1, h2⟩⟩
def IsStr (_ : Nat) (v : Value) : Prop := ∃ s : ByteArray, v = .string s ∧ s.size ≤ 9223372036854775807
def IsU8 (_ : Nat) (v : Value) : Prop := ∃ x : UInt8, v = .int .u8 (x.toNat : Int)
theorem strs_open {H : Type} {enc : TypeId × Value → H} {w : World} {base : Nat} {held : Bool} {fuel : Nat} {a0 : Option Addr} {l0 c0 : Nat} {x : DataW H × List MemPlace}
    (h : DataW.trod enc Tryz.prog w base (fun _ => true) held fuel 89 [.slice a0 l0 c0] = some x) : RowIn w a0 l0 IsStr ∧ l0 ≤ c0 ∧ c0 ≤ maxLen := by
  rcases Deep.open_slice Tryz.underlying89 h with ⟨h0, _⟩ | ⟨a, len, cap, m, n, D, Pl, e0, hb, hl, hm, hmm, rfl, hx⟩
  · simp at h0
    obtain ⟨rfl, rfl, rfl⟩ := h0
    exact ⟨⟨fun h => by cases h⟩, Nat.le_refl _, Nat.zero_le _⟩
  · simp at e0
    obtain ⟨rfl, rfl, rfl⟩ := e0
    simp only [if_true] at hmm
    have z9 : Tryz.prog.cellsOf 9 = 1 := by kernel_rfl
    refine ⟨RowIn.of fun i hi => ?_, hl, hm⟩
    obtain ⟨cs', h1, h2⟩ := hx i (by omega)
    rw [z9, Nat.mul_one] at h1
    obtain ⟨q, e0, _, hq⟩ := DataW.trod_string Tryz.underlying9 h2
    subst e0
    obtain ⟨_, _, hcell⟩ := World.cells?_some h1
    have := hcell 0 (by simp)
    unfold maxLen at hq
    exact ⟨_, by simpa [Deep.add_add] using this, q, rfl, by omega⟩
theorem u8s_open {H : Type} {enc : TypeId × Value → H} {w : World} {base : Nat} {held : Bool} {fuel : Nat} {a0 : Option Addr} {l0 c0 : Nat} {x : DataW H × List MemPlace}
    (h : DataW.trod enc Tryz.prog w base (fun _ => true) held fuel 84 [.slice a0 l0 c0] = some x) : RowIn w a0 l0 IsU8 ∧ l0 ≤ c0 ∧ c0 ≤ maxLen := by
  rcases Deep.open_slice Tryz.underlying84 h with ⟨h0, _⟩ | ⟨a, len, cap, m, n, D, Pl, e0, hb, hl, hm, hmm, rfl, hx⟩
  · simp at h0
    obtain ⟨rfl, rfl, rfl⟩ := h0
    exact ⟨⟨fun h => by cases h⟩, Nat.le_refl _, Nat.zero_le _⟩
  · simp at e0
    obtain ⟨rfl, rfl, rfl⟩ := e0
    simp only [if_true] at hmm
    have z5 : Tryz.prog.cellsOf 5 = 1 := by kernel_rfl
    refine ⟨RowIn.of fun i hi => ?_, hl, hm⟩
    obtain ⟨cs', h1, h2⟩ := hx i (by omega)
    rw [z5, Nat.mul_one] at h1
    obtain ⟨q, e0, _, hq⟩ := DataW.trod_int Tryz.underlying5 h2
    subst e0
    obtain ⟨y, rfl⟩ := u8_of hq
    obtain ⟨_, _, hcell⟩ := World.cells?_some h1
    have := hcell 0 (by simp)
    exact ⟨_, by simpa [Deep.add_add] using this, y, rfl⟩
set_option maxRecDepth 100000 in
theorem fate_cells {H : Type} {enc : TypeId × Value → H} {w : World} {base : Nat} {held : Bool} {fuel : Nat} {cs : List Value} {x : DataW H × List MemPlace}
    (h : DataW.trod enc Tryz.prog w base (fun _ => true) held fuel 25 cs = some x) : ∃ (v : Value) (l : List Int), cs = [v] ∧ Ints w (fun k => k < w.heap.size) v l ∧ l.length ≤ maxLen := by
  obtain ⟨ys, m2, _, _, hl2, hn2, hF2⟩ := DataW.trod_struct Tryz.underlying25 h
  rw [show Tryz.prog.cellsOf 25 = 1 by kernel_rfl] at hl2
  match cs, hl2, ys, hn2 with
  | [c3], _, [y], _ =>
    have g4 : DataW.trod enc Tryz.prog w base (fun _ => true) held m2 23 (([c3].drop 0).take (Tryz.prog.cellsOf 23)) = some y := hF2 0 _ rfl
    rw [show Tryz.prog.cellsOf 23 = 1 by kernel_rfl] at g4
    obtain ⟨v, l, e4, hI, hll⟩ := ints_open g4
    simp [List.take, List.drop] at e4
    subst e4
    exact ⟨c3, l, rfl, hI, hll⟩
end Go.Proofs.YtoaipjpbioaneaaGreat
