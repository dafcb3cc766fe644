/- Cells laid over a part of a row or a block: a store of an aggregate, a copy out of a row or a text; a part loaded as an aggregate. No function of the program is named. -/
import Derived.Test.YtoaipjpbioaneaaGreatRow
import Derived.Deep.MidRow
import Derived.Laws.OwnMore
import Derived.Lib.LazyBuf
namespace Go.Proofs.YtoaipjpbioaneaaGreat
open Go.RowKit

/-- A row with other cells laid over it from a place on. -/
def spl {α : Type} (L : List α) (off : Nat) (cs : List α) : List α := L.take off ++ (cs ++ L.drop (off + cs.length))
theorem spl_length {α : Type} (L : List α) (off : Nat) (cs : List α) (h : off + cs.length ≤ L.length) : (spl L off cs).length = L.length := by
  simp [spl]; omega
theorem spl_map {α β : Type} (f : α → β) (L : List α) (off : Nat) (cs : List α) : (spl L off cs).map f = spl (L.map f) off (cs.map f) := by
  simp [spl]
theorem spl_take {α : Type} (L : List α) (off : Nat) (cs : List α) (N : Nat) (h : off + cs.length ≤ N) : (spl L off cs).take N = spl (L.take N) off cs := by
  rcases Nat.lt_or_ge L.length (off + cs.length) with h1 | h1
  · unfold spl
    rw [List.take_take, Nat.min_eq_left (by omega), List.drop_of_length_le (by omega), List.drop_of_length_le (by simp; omega), List.take_of_length_le]
    simp; omega
  · unfold spl
    rw [List.take_append, List.take_append, List.take_take, List.take_take, Nat.min_eq_left (show off ≤ N by omega), List.length_take, Nat.min_eq_left (show off ≤ L.length by omega), Nat.min_eq_right (show off ≤ N by omega),
      List.take_of_length_le (show cs.length ≤ N - off by omega), List.drop_take, show N - off - cs.length = N - (off + cs.length) by omega]
theorem setRow_chg (w : World) (g : Nat) (cs : Array Value) : Chg (fun k => k = g) w (w.setRow g cs) := ⟨rfl, rfl, rfl, by simp [World.setRow], fun k _ hn => setRow_other w g k cs hn⟩

/-- Block g holds at least L, cells of type e; nothing of it is frozen. -/
structure Hold (w : World) (g : Nat) (e : TypeId) (L : List Value) : Prop where
  out : ∃ more : List Value, w.heap[g]? = some (.cells (L ++ more).toArray e (0, 0))
theorem Hold.cell {w : World} {g : Nat} {e : TypeId} {L : List Value} (h : Hold w g e L) (i : Nat) (hi : i < L.length) : w.cell? ⟨g, i, none⟩ = some L[i] := by
  obtain ⟨more, hg⟩ := h.out
  rw [cell_of_row w g i _ e _ hg]; simp [List.getElem?_append_left hi, hi]
theorem Hold.range {w : World} {g : Nat} {e : TypeId} {L : List Value} (h : Hold w g e L) (o m : Nat) : w.rangeAt g o ((L.drop o).take m) := fun j v hv => by
  rw [List.getElem?_take] at hv
  split at hv
  · rw [List.getElem?_drop] at hv
    obtain ⟨hl, rfl⟩ := List.getElem?_eq_some_iff.1 hv
    exact h.cell _ hl
  · cases hv
theorem Hold.free {w : World} {g : Nat} {e : TypeId} {L : List Value} (h : Hold w g e L) (i : Nat) : w.frozen? ⟨g, i, none⟩ = false := by
  obtain ⟨more, hg⟩ := h.out
  exact frozen_of_row w g i _ e hg
theorem Hold.lt {w : World} {g : Nat} {e : TypeId} {L : List Value} (h : Hold w g e L) : g < w.heap.size := by
  obtain ⟨more, hg⟩ := h.out
  exact (Array.getElem?_eq_some_iff.1 hg).1
theorem Hold.chg {S : Nat → Prop} {w w' : World} {g : Nat} {e : TypeId} {L : List Value} (h : Hold w g e L) (hc : Chg S w w') (hn : ¬ S g) : Hold w' g e L := by
  obtain ⟨more, hg⟩ := h.out
  exact ⟨more, (hc.block g h.lt hn).trans hg⟩
theorem Hold.of_blk {w : World} {g : Nat} {e : TypeId} {L : List Value} (h : Blk w g L e) : Hold w g e L := ⟨[], by rw [List.append_nil]; exact h⟩
theorem Hold.of_row {w : World} {e : TypeId} {size n c g : Nat} {xs : List Value} (h : Row w e size (.slice (some ⟨g, 0, none⟩) n c) n xs) : Hold w g e xs := by
  obtain ⟨hl, ⟨h1, _⟩ | ⟨g1, cap, cur, h1, _, hg, hnc, _, hcs, ht⟩⟩ := h
  · cases h1
  · cases h1
    refine ⟨cur.toList.drop (n * size), ?_⟩
    rw [← ht, List.take_append_drop, Array.toArray_toList]; exact hg
theorem row_of_hold {w w' : World} {e : TypeId} {size n c g : Nat} {xs ys : List Value} (h : Row w e size (.slice (some ⟨g, 0, none⟩) n c) n xs) (hl : ys.length = xs.length) (o : Nat) (vs : List Value) (hfit : o + vs.length ≤ xs.length) (hy : ys = spl xs o vs)
    (hw : ∀ cur : Array Value, w.heap[g]? = some (.cells cur e (0, 0)) → w'.heap[g]? = some (.cells (spl cur.toList o vs).toArray e (0, 0))) : Row w' e size (.slice (some ⟨g, 0, none⟩) n c) n ys := by
  obtain ⟨h0, ⟨h1, _⟩ | ⟨g1, cap, cur, h1, hb, hg, hnc, hm, hcs, ht⟩⟩ := h
  · cases h1
  · cases h1
    have hle : n * size ≤ c * size := Nat.mul_le_mul_right _ hnc
    refine ⟨by rw [hl, h0], .inr ⟨g, c, _, rfl, hb, hw cur hg, hnc, hm, ?_, ?_⟩⟩
    · have hcl : cur.toList.length = cur.size := Array.length_toList
      rw [List.size_toArray, spl_length _ _ _ (by omega), hcl]; exact hcs
    · rw [spl_take _ _ _ _ (by omega), ht]; exact hy.symm

section
variable {P : Program} {w : World} {ops : Array Oper} {rest : List Oper} {o : Oper} {a : Act} {Q : Exit → Act → World → Prop}
/-- What is known behind cells laid over a part of what a block holds. -/
structure Laid (w : World) (g : Nat) (e : TypeId) (L : List Value) (off : Nat) (vs : List Value) (w' : World) : Prop where
  hold : Hold w' g e (spl L off vs)
  row : ∀ size n c, Row w e size (.slice (some ⟨g, 0, none⟩) n c) n L → Row w' e size (.slice (some ⟨g, 0, none⟩) n c) n (spl L off vs)
  blk : Blk w g L e → Blk w' g (spl L off vs) e
  chg : Chg (fun k => k = g) w w'
theorem laid_all {w : World} {g : Nat} {e : TypeId} {L more : List Value} (hg : w.heap[g]? = some (.cells (L ++ more).toArray e (0, 0))) (off : Nat) (vs : List Value) (hfit : off + vs.length ≤ L.length) :
    Laid w g e L off vs (w.setRow g ((L ++ more).take off ++ vs ++ (L ++ more).drop (off + vs.length)).toArray) := by
  have e0 : (L ++ more).take off ++ vs ++ (L ++ more).drop (off + vs.length) = spl L off vs ++ more := by
    rw [List.drop_append_of_le_length hfit, List.take_append_of_le_length (by omega)]; simp [spl]
  rw [e0]
  have hnew := setRow_heap w g _ (spl L off vs ++ more).toArray e _ hg
  refine ⟨⟨more, hnew⟩, fun size n c hr => ?_, fun hb => ?_, setRow_chg _ _ _⟩
  · refine row_of_hold hr (spl_length _ _ _ hfit) off vs hfit rfl fun cur hc => ?_
    rw [hg] at hc
    simp at hc
    rw [hnew, ← hc, ← e0]
    simp [spl]
  · unfold Blk at hb ⊢
    rw [hg] at hb
    simp at hb
    rw [hnew, hb, List.append_nil]
/-- A store of an aggregate over a part of what a block holds. -/
theorem run_storeH (g off : Nat) (e ty : TypeId) (L vs : List Value) (h : Hold w g e L) (hfit : off + vs.length ≤ L.length) (h1 : ∀ v ∈ vs, v.oneCell' = true) (hi : (P.info? ty).map (·.size) = some vs.length) :
    ∃ w', (storeVar ty ⟨g, off, none⟩ (.agg vs.toArray)).run P w = .ok () w' ∧ Laid w g e L off vs w' := by
  obtain ⟨more, hg⟩ := h.out
  have hr := run_storeCells_at P g off e vs 0 (L ++ more).toArray w hg (by simp; omega) h1
  simp only [Nat.add_zero] at hr
  refine ⟨_, ?_, laid_all hg off vs hfit⟩
  cases hq : P.info? ty with
  | none => simp [hq] at hi
  | some i =>
    have hs : vs.length = i.size := by simp [hq] at hi; omega
    simp [storeVar, sizeOf, typeInfo, hq, Value.cells, hs]
    simpa [hs] using hr
theorem wp_storeH {K : Act → World → Prop} (ty : TypeId) (x y : Operand) (ho : o.op = .store ty x y) (g off : Nat) (e : TypeId) (L vs : List Value) (hx : a.eval x = .pointer (some ⟨g, off, none⟩)) (hy : a.eval y = .agg vs.toArray)
    (h : Hold w g e L) (hfit : off + vs.length ≤ L.length) (h1 : ∀ v ∈ vs, v.oneCell' = true) (hi : (P.info? ty).map (·.size) = some vs.length)
    (k : ∀ w', Laid w g e L off vs w' → K (a.put o.dst undef) w') : o.wp P a w K Q := by
  obtain ⟨w', hr, hl⟩ := run_storeH (P := P) g off e ty L vs h hfit h1 hi
  unfold Oper.wp execOp
  simp only [ho, hx, hy, Instr.storeAt, Instr.sureAddr, Sem.run_bind, Sem.run_pure, Result.andThen_ok, hr]
  exact k _ hl
theorem wpList_storeH (hgd : o.guard = none) (ty : TypeId) (x y : Operand) (ho : o.op = .store ty x y) (g off : Nat) (e : TypeId) (L vs : List Value) (hx : a.eval x = .pointer (some ⟨g, off, none⟩)) (hy : a.eval y = .agg vs.toArray)
    (h : Hold w g e L) (hfit : off + vs.length ≤ L.length) (h1 : ∀ v ∈ vs, v.oneCell' = true) (hi : (P.info? ty).map (·.size) = some vs.length)
    (k : ∀ w', Laid w g e L off vs w' → wpList P ops Q rest (a.put o.dst undef) w') : wpList P ops Q (o :: rest) a w :=
  wpList_plain hgd fun _ hK => wp_storeH ty x y ho g off e L vs hx hy h hfit h1 hi fun w' hl => hK _ _ (k w' hl)
/-- copy of cells that lie somewhere over a part of what a block holds. -/
theorem run_copyH (dT sT ty elem : TypeId) (hu : P.underlying dT = some (.slice elem)) (hs : (P.info? elem).map (·.size) = some 1) (g off dLen dCap g2 o2 sLen sCap : Nat) (e : TypeId) (L vs : List Value) (h : Hold w g e L)
    (hn : vs.length = Nat.min sLen dLen) (hsrc : w.rangeAt g2 o2 vs) (hfit : off + vs.length ≤ L.length) (h1 : ∀ v ∈ vs, v.oneCell' = true) :
    ∃ w', (Builtin.copy_ #[dT, sT] ty #[.slice (some ⟨g, off, none⟩) dLen dCap, .slice (some ⟨g2, o2, none⟩) sLen sCap]).run P w = .ok (goInt vs.length) w' ∧ Laid w g e L off vs w' := by
  obtain ⟨more, hg⟩ := h.out
  have hr := run_copy_row (P := P) w dT sT ty elem g off dLen dCap ⟨g2, o2, none⟩ sLen sCap _ e vs hu hs hg hn (fun j v hv => by rw [Addr.add_mid]; exact hsrc j v hv) (by simp; omega) h1
  exact ⟨_, by simpa using hr, by simpa using laid_all hg off vs hfit⟩
theorem wpList_copyH (hgd : o.guard = none) (d s : Operand) (dT sT elem : TypeId) (ho : o.op = .call { callee := .builtin .copy, args := #[d, s], argTypes := #[dT, sT] })
    (hu : P.underlying dT = some (.slice elem)) (hs : (P.info? elem).map (·.size) = some 1) (g off dLen dCap g2 o2 sLen sCap : Nat) (e : TypeId) (L vs : List Value) (hd : a.eval d = .slice (some ⟨g, off, none⟩) dLen dCap) (hx : a.eval s = .slice (some ⟨g2, o2, none⟩) sLen sCap)
    (h : Hold w g e L) (hn : vs.length = Nat.min sLen dLen) (hsrc : w.rangeAt g2 o2 vs) (hfit : off + vs.length ≤ L.length) (h1 : ∀ v ∈ vs, v.oneCell' = true)
    (k : ∀ w', Laid w g e L off vs w' → wpList P ops Q rest (a.put o.dst (goInt vs.length)) w') : wpList P ops Q (o :: rest) a w := by
  refine wpList_plain hgd fun K hK => ?_
  obtain ⟨w', hr, hl⟩ := run_copyH (P := P) dT sT o.type elem hu hs g off dLen dCap g2 o2 sLen sCap e L vs h hn hsrc hfit h1
  unfold Oper.wp execOp
  simp only [ho, resolve, invoke, builtin, Sem.run_bind, Sem.run_pure, Result.andThen_ok, List.map_toArray, List.map_cons, List.map_nil, hd, hx, hr]
  exact hK _ _ (k w' hl)
/-- copy of a text that fits. -/
theorem run_copyT (dT sT ty elem : TypeId) (hu : P.underlying dT = some (.slice elem)) (hs : (P.info? elem).map (·.size) = some 1) (g off dLen dCap : Nat) (t : ByteArray) (e : TypeId) (L : List Value) (h : Hold w g e L)
    (hle : t.size ≤ dLen) (hfit : off + t.size ≤ L.length) :
    ∃ w', (Builtin.copy_ #[dT, sT] ty #[.slice (some ⟨g, off, none⟩) dLen dCap, .string t]).run P w = .ok (goInt t.size) w' ∧ Laid w g e L off (t.data.toList.map yc) w' := by
  have hl : (t.data.toList.map yc).length = t.size := by rw [List.length_map, data_len]
  obtain ⟨more, hg⟩ := h.out
  have hst := run_storeCells_at P g off e (t.data.toList.map yc) 0 (L ++ more).toArray w hg (by rw [hl]; simp; omega) (by
    intro v hv; simp only [List.mem_map] at hv; obtain ⟨x, _, rfl⟩ := hv; rfl)
  simp only [Nat.add_zero] at hst
  refine ⟨_, ?_, laid_all hg off _ (by rw [hl]; exact hfit)⟩
  have hmin : Nat.min t.size dLen = t.size := Nat.min_eq_left hle
  cases hq : P.info? elem with
  | none => simp [hq] at hs
  | some i =>
    have htk : List.take t.size (List.map (fun b : UInt8 => Value.int IntKind.u8 (b.toNat : Int)) t.data.toList) = t.data.toList.map yc := by
      rw [List.take_of_length_le (by rw [List.length_map, data_len]; exact Nat.le_refl _)]; rfl
    simp [Builtin.copy_, run_underlying hu, Builtin.lenOf, Builtin.firstCells, sizeOf, typeInfo, hq, hmin]
    rw [htk]
    simp at hst
    rw [hst]
    simp [Result.andThen]
theorem wpList_copyT (hgd : o.guard = none) (d s : Operand) (dT sT elem : TypeId) (ho : o.op = .call { callee := .builtin .copy, args := #[d, s], argTypes := #[dT, sT] })
    (hu : P.underlying dT = some (.slice elem)) (hs : (P.info? elem).map (·.size) = some 1) (g off dLen dCap : Nat) (t : ByteArray) (e : TypeId) (L : List Value) (hd : a.eval d = .slice (some ⟨g, off, none⟩) dLen dCap) (hx : a.eval s = .string t)
    (h : Hold w g e L) (hle : t.size ≤ dLen) (hfit : off + t.size ≤ L.length)
    (k : ∀ w', Laid w g e L off (t.data.toList.map yc) w' → wpList P ops Q rest (a.put o.dst (goInt t.size)) w') : wpList P ops Q (o :: rest) a w := by
  refine wpList_plain hgd fun K hK => ?_
  obtain ⟨w', hr, hl⟩ := run_copyT (P := P) dT sT o.type elem hu hs g off dLen dCap t e L h hle hfit
  unfold Oper.wp execOp
  simp only [ho, resolve, invoke, builtin, Sem.run_bind, Sem.run_pure, Result.andThen_ok, List.map_toArray, List.map_cons, List.map_nil, hd, hx, hr]
  exact hK _ _ (k w' hl)
end
theorem yc_one (l : List UInt8) : ∀ v ∈ l.map yc, v.oneCell' = true := by
  intro v hv; simp only [List.mem_map] at hv; obtain ⟨x, _, rfl⟩ := hv; rfl
end Go.Proofs.YtoaipjpbioaneaaGreat
