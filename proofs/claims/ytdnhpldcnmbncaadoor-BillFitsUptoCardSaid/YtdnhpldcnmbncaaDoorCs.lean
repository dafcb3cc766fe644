/- The law for copy from a text into a row of cells known whole. No program is named. -/
import Derived.Test.YtdnhpldcnmbncaaDoorShaN
import Derived.Laws.CopyRow
namespace Go.Proofs.YtdnhpldcnmbncaaDoor
open Go.RowKit

/-- A byte as a cell. -/
def yc (x : UInt8) : Value := .int .u8 (Y x)
/-- A row with other cells laid over it from a place on. -/
def spl {α : Type} (L : List α) (off : Nat) (cs : List α) : List α := L.take off ++ (cs ++ L.drop (off + cs.length))
theorem spl_length {α : Type} (L : List α) (off : Nat) (cs : List α) (h : off + cs.length ≤ L.length) : (spl L off cs).length = L.length := by
  simp [spl]; omega

theorem run_copy_str {P : Program} (w : World) (dT sT ty elem : TypeId) (g o dLen dCap : Nat) (s : ByteArray) (cur : List Value) (t : TypeId)
    (hu : P.underlying dT = some (.slice elem)) (hs : (P.info? elem).map (·.size) = some 1) (hg : Blk w g cur t) (hfit : o + Nat.min s.size dLen ≤ cur.length) :
    (Builtin.copy_ #[dT, sT] ty #[.slice (some ⟨g, o, none⟩) dLen dCap, .string s]).run P w =
      .ok (goInt (Nat.min s.size dLen)) (w.setRow g (spl cur o ((s.data.toList.take (Nat.min s.size dLen)).map yc)).toArray) := by
  have hn : Nat.min s.size dLen ≤ s.size := Nat.min_le_left _ _
  generalize hm : Nat.min s.size dLen = n at *
  have hlen : ((s.data.toList.take n).map yc).length = n := by
    have : s.data.toList.length = s.size := by rw [Array.length_toList]; rfl
    rw [List.length_map, List.length_take, this]; omega
  have hst := run_storeCells_at P g o t ((s.data.toList.take n).map yc) 0 cur.toArray w hg (by rw [hlen]; simpa using hfit) (by
    intro v hv; simp only [List.mem_map] at hv; obtain ⟨x, _, rfl⟩ := hv; rfl)
  rw [hlen] at hst
  simp only [Nat.add_zero] at hst
  cases hq : P.info? elem with
  | none => simp [hq] at hs
  | some i =>
    have htk : List.take n (List.map (fun b : UInt8 => Value.int IntKind.u8 (b.toNat : Int)) s.data.toList) = (s.data.toList.take n).map yc := by
      rw [← List.map_take]; rfl
    have e : spl cur o ((s.data.toList.take n).map yc) = cur.take o ++ ((s.data.toList.take n).map yc ++ cur.drop (o + n)) := by rw [spl, hlen]
    rw [e]
    simp [Builtin.copy_, run_underlying hu, Builtin.lenOf, Builtin.firstCells, sizeOf, typeInfo, hq, hm]
    rw [htk, hst]
    simp [Result.andThen]

theorem run_store_row {P : Program} {w : World} {g o : Nat} {cur : List Value} {t : TypeId} (hg : Blk w g cur t) (vs : List Value) (hfit : o + vs.length ≤ cur.length) (h1 : ∀ v ∈ vs, v.oneCell' = true) :
    (storeCells ⟨g, o, none⟩ vs).run P w = .ok () (w.setRow g (spl cur o vs).toArray) := by
  have := run_storeCells_at P g o t vs 0 cur.toArray w hg (by simpa using hfit) h1
  simp only [Nat.add_zero] at this
  rw [this]; simp [spl]
theorem words_one (l : List (BitVec 32)) : ∀ v ∈ l.map fun x => Value.int .u32 (U x), v.oneCell' = true := by
  intro v hv; simp only [List.mem_map] at hv; obtain ⟨x, _, rfl⟩ := hv; rfl
theorem setRow_blk {w : World} {g : Nat} {cur : List Value} {t : TypeId} (hg : Blk w g cur t) (cs : List Value) : Blk (w.setRow g cs.toArray) g cs t := setRow_heap w g _ _ t _ hg
theorem setRow_save (w : World) (B g : Nat) (cs : Array Value) : Save B g w (w.setRow g cs) := ⟨rfl, rfl, rfl, by simp [World.setRow], fun k _ hn => setRow_other w g k cs hn⟩

theorem wpList_copy_str {P : Program} {w : World} {ops : Array Oper} {rest : List Oper} {o : Oper} {a : Act} {Q : Exit → Act → World → Prop} (hgd : o.guard = none) (d s : Operand) (dT sT : TypeId)
    (ho : o.op = .call { callee := .builtin .copy, args := #[d, s], argTypes := #[dT, sT] }) (elem : TypeId) (hu : P.underlying dT = some (.slice elem)) (hsz : (P.info? elem).map (·.size) = some 1)
    (g off dLen dCap : Nat) (str : ByteArray) (hd : a.eval d = .slice (some ⟨g, off, none⟩) dLen dCap) (hs : a.eval s = .string str)
    (cur : List Value) (t : TypeId) (hg : Blk w g cur t) (hfit : off + Nat.min str.size dLen ≤ cur.length)
    (h : ∀ w', Box (Blk w' g (spl cur off ((str.data.toList.take (Nat.min str.size dLen)).map yc)) t) → Box (∀ B, Save B g w w') → wpList P ops Q rest (a.put o.dst (goInt (Nat.min str.size dLen))) w') :
    wpList P ops Q (o :: rest) a w := by
  refine wpList_plain hgd fun K hK => ?_
  have hrun := run_copy_str (P := P) w dT sT o.type elem g off dLen dCap str cur t hu hsz hg hfit
  generalize (str.data.toList.take (Nat.min str.size dLen)).map yc = X at hrun h
  unfold Oper.wp
  simp [execOp, ho, resolve, invoke, builtin, hd, hs, hrun, Result.andThen]
  exact hK _ _ (h _ ⟨setRow_blk hg _⟩ ⟨fun B => setRow_save w B g _⟩)

/-! ### A digest's cells -/
def dcells (st : S8) (bl : List UInt8) (n : Nat) : List Value := st.cells ++ (bl.map yc ++ [.int .i64 (n : Int)])
theorem S8.cells_length (st : S8) : st.cells.length = 8 := rfl
theorem dcells_length (st : S8) (bl : List UInt8) (n : Nat) (h : bl.length = 64) : (dcells st bl n).length = 73 := by
  simp [dcells, S8.cells_length, h]
theorem dcells_size (st : S8) (bl : List UInt8) (n : Nat) (h : bl.length = 64) : (dcells st bl n)[72]? = some (.int .i64 (n : Int)) := by
  rw [dcells, List.getElem?_append_right (by rw [S8.cells_length]; omega), List.getElem?_append_right (by simp [S8.cells_length, h])]
  simp [S8.cells_length, h]
theorem dcells_set (st : S8) (bl : List UInt8) (n m : Nat) (h : bl.length = 64) : (dcells st bl n).set 72 (.int .i64 (m : Int)) = dcells st bl m := by
  rw [dcells, List.set_append_right _ _ (by rw [S8.cells_length]; omega), List.set_append_right _ _ (by simp [S8.cells_length, h])]
  simp [S8.cells_length, h, dcells]
theorem dcells_block (bl : List UInt8) (n i : Nat) (h : bl.length = 64) (hi : i < 64) : (bl.map yc ++ [Value.int .i64 (n : Int)])[i]? = some (.int .u8 (Y (bl.getD i 0))) := by
  rw [List.getElem?_append_left (by simp [h]; exact hi)]
  simp [List.getD, h, hi, yc]
theorem dcells_spl (st : S8) (bl : List UInt8) (N u : Nat) (s : List UInt8) (h : bl.length = 64) (hu : u + s.length ≤ 64) : spl (dcells st bl N) (8 + u) (s.map yc) = dcells st (spl bl u s) N := by
  have h1 : (dcells st bl N).take (8 + u) = st.cells ++ (bl.take u).map yc := by
    rw [dcells, List.take_append, S8.cells_length, List.take_of_length_le (by rw [S8.cells_length]; omega), show 8 + u - 8 = u by omega, List.take_append_of_le_length (by simp [h]; omega), List.map_take]
  have h2 : (dcells st bl N).drop (8 + u + s.length) = (bl.drop (u + s.length)).map yc ++ [.int .i64 (N : Int)] := by
    rw [dcells, List.drop_append, S8.cells_length, List.drop_of_length_le (by rw [S8.cells_length]; omega), show 8 + u + s.length - 8 = u + s.length by omega, List.drop_append_of_le_length (by simp [h]; omega), List.map_drop]
    rfl
  rw [spl, List.length_map, h1, h2, dcells, spl]
  simp [List.append_assoc]
end Go.Proofs.YtdnhpldcnmbncaaDoor
