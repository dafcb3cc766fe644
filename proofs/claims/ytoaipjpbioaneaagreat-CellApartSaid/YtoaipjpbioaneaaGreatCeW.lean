/- Names told by a walk; make in a guarded place; texts of zeros. -/
import Derived.Test.YtoaipjpbioaneaaGreatCeU
import Derived.Great.BuildSlice
namespace Go.Proofs.YtoaipjpbioaneaaGreat
open Go.RowKit Go.Maps

section
variable {P : Program} {w : World} {ops : Array Oper} {rest : List Oper} {o : Oper} {a : Act} {Q : Exit → Act → World → Prop}
/-- An operation whose guard is open. -/
theorem wpList_wanted (hw : Region.wanted o (yielded ops a.tmps) = true) (h : ∀ K : Act → World → Prop, (∀ a w, wpList P ops Q rest a w → K a w) → o.wp P a w K Q) : wpList P ops Q (o :: rest) a w :=
  wpList_step fun K hK => by rw [if_pos hw]; exact h K hK
theorem wpList_makeG (hw : Region.wanted o (yielded ops a.tmps) = true) (l c : Operand) (t : TypeId) (hop : o.op = Op.makeSlice t l c) (base : Nat) (e : TypeId) (i : TypeInfo) (z : Value) (size : Nat) (h1 : P.underlying t = some (.slice e)) (h2 : P.info? e = some i) (h3 : i.zero = some z) (h4 : i.size = size)
    (kl kc : IntKind) (L C : Int) (n : Nat) (hl : a.eval l = .int kl L) (hc : a.eval c = .int kc C) (hL : L = (n : Int)) (hC : C = (n : Int)) (b2 : i.bytes * n ≤ 281474976710656) (b3 : n ≤ maxLen) (b4 : base ≤ w.heap.size)
    (k : ∀ w', w'.ownsRow base e size (.slice (some ⟨w.heap.size, 0, none⟩) n n) n (madeCells z.cells (n * size)).toList → w.grownBy w' none → wpList P ops Q rest (a.put o.dst (.slice (some ⟨w.heap.size, 0, none⟩) n n)) w') : wpList P ops Q (o :: rest) a w := by
  refine wpList_wanted hw fun K hK => ?_
  obtain ⟨w', hrun, r1, r2⟩ := run_make_full (P := P) w base t e i z size h1 h2 h3 h4 kl kc n b2 b3 b4
  subst hL
  subst hC
  unfold Oper.wp
  simp [execOp, hop, hl, hc, hrun, Result.andThen]
  exact hK _ _ (k w' r1 r2)
end
def zs (n : Nat) : ByteArray := btx (List.replicate n 0)
theorem zs_list (n : Nat) : (zs n).data.toList = List.replicate n 0 := rfl
theorem zs_size (n : Nat) : (zs n).size = n := by show (List.replicate n (0 : UInt8)).length = n; simp
theorem zeros_convG (w : World) (g base n : Nat) (h : w.ownsRow base 5 1 (.slice (some ⟨g, 0, none⟩) n n) n (madeCells (Value.int .u8 0).cells (n * 1)).toList) :
    (convert 84 9 (.slice (some ⟨g, 0, none⟩) n n)).run Tryz.prog w = .ok (.string (zs n)) w := by
  have e : (madeCells (Value.int .u8 0).cells (n * 1)).toList = (List.replicate n (0 : UInt8)).map yc := by
    have := toList_madeCells_one (.int .u8 0) (n * 1)
    rw [Nat.mul_one] at this
    rw [Nat.mul_one, List.map_replicate]
    exact this
  rw [e] at h
  have hx : w.rangeAt g 0 ((List.replicate n (0 : UInt8)).map yc) := fun j v hv => by
    have := World.ownsRow.cells (g := g) h rfl j v hv
    rw [Addr.add_mid] at this
    exact this
  have := bytes_conv w g 0 n (List.replicate n (0 : UInt8)) hx
  rw [List.length_replicate] at this
  exact this
theorem infoY : (Tryz.prog.info? 5).map (fun i => (i.zero, i.size, i.bytes)) = some (some (.int .u8 0), 1, 1) := by kernel_rfl
theorem grown_below {w w' : World} (hg : w.grownBy w' none) : Below w.heap.size w w' := ⟨hg.os, hg.tape, hg.output, hg.size, fun k hk => hg.block k hk (by simp)⟩
/-! ### Names -/
def NamesE (O : Obj) (n : Nat) : Ending → Obj := fun e w F => (∃ a c, e = .returned (.slice a n c)) ∧ O w F
theorem names_does (bd bc base half : Nat) (M : CellM) :
    Does 43 #[.pointer (some ⟨bc, 0, none⟩)] (CelO bd bc base half M) (NamesE (CelO bd bc base half M) M.now.length) := by
  intro w F h
  obtain ⟨bn, p, hb, hM, hW, hFn, hFp, hne⟩ := h.out
  refine (names_of bc bn _ M.now w hb hM h.ok.now.rise (by have := h.ok.now.n; omega)).mono fun e w' ⟨v, he, hr, _, hB⟩ => ?_
  obtain ⟨a, c, rfl⟩ := Row.shape hr
  exact ⟨⟨⟨a, c, he⟩, (Ext.of_below (CelO.good _ _ _ _ _) h hB).1⟩, (Ext.of_below (CelO.good _ _ _ _ _) h hB).2⟩
end Go.Proofs.YtoaipjpbioaneaaGreat
