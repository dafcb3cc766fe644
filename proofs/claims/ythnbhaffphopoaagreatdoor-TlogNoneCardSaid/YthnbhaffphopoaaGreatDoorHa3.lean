/- The law for copy from a text into a row of cells known whole. No program is named. | Plain facts: what a digest holds of a text. | Walks of a digest's methods. | Slices of the arrays that a digest and its hash are made in. | Walk of a digest's Add. -/
import Derived.Laws.CopyRow
import Derived.Handy
import Derived.Test.YthnbhaffphopoaaGreatDoorHa1
namespace Go.Proofs.YthnbhaffphopoaaGreatDoor
open Go.RowKit

/-- A byte as a cell. -/
def yc (x : UInt8) : Value := .int .u8 (Y x)
/-- A row with other cells laid over it from a place on. -/
def spl {α : Type} (L : List α) (off : Nat) (cs : List α) : List α := L.take off ++ (cs ++ L.drop (off + cs.length))
theorem spl_length {α : Type} (L : List α) (off : Nat) (cs : List α) (h : off + cs.length ≤ L.length) : (spl L off cs).length = L.length := by
  simp [spl]; omega

theorem run_copy_str {P : Program} (w : World) (dT sT ty elem : TypeId) (g o dLen dCap : Nat) (s : ByteArray) (cur : List Value) (t : TypeId)
    (hu : P.underlying dT = some (.slice elem)) (hs : (P.info? elem).map (·.size) = some 1) (hg : Blk w g cur t) (hfit : o + Nat.min s.size dLen ≤ cur.length) :
    (Builtin.copy_ #[dT, sT] ty #[.slice (some ⟨g, o, none⟩) dLen dCap, .string s]).run P w =
      .ok (goInt (Nat.min s.size dLen)) (w.setRow g (spl cur o ((s.data.toList.take (Nat.min s.size dLen)).map yc)).toArray) := by
  have hn : Nat.min s.size dLen ≤ s.size := Nat.min_le_left _ _
  generalize hm : Nat.min s.size dLen = n at *
  have hlen : ((s.data.toList.take n).map yc).length = n := by
    have : s.data.toList.length = s.size := by rw [Array.length_toList]; rfl
    rw [List.length_map, List.length_take, this]; omega
  have hst := run_storeCells_at P g o t ((s.data.toList.take n).map yc) 0 cur.toArray w hg (by rw [hlen]; simpa using hfit) (by
    intro v hv; simp only [List.mem_map] at hv; obtain ⟨x, _, rfl⟩ := hv; rfl)
  rw [hlen] at hst
  simp only [Nat.add_zero] at hst
  cases hq : P.info? elem with
  | none => simp [hq] at hs
  | some i =>
    have htk : List.take n (List.map (fun b : UInt8 => Value.int IntKind.u8 (b.toNat : Int)) s.data.toList) = (s.data.toList.take n).map yc := by
      rw [← List.map_take]; rfl
    have e : spl cur o ((s.data.toList.take n).map yc) = cur.take o ++ ((s.data.toList.take n).map yc ++ cur.drop (o + n)) := by rw [spl, hlen]
    rw [e]
    simp [Builtin.copy_, run_underlying hu, Builtin.lenOf, Builtin.firstCells, sizeOf, typeInfo, hq, hm]
    rw [htk, hst]
    simp [Result.andThen]

theorem run_store_row {P : Program} {w : World} {g o : Nat} {cur : List Value} {t : TypeId} (hg : Blk w g cur t) (vs : List Value) (hfit : o + vs.length ≤ cur.length) (h1 : ∀ v ∈ vs, v.oneCell' = true) :
    (storeCells ⟨g, o, none⟩ vs).run P w = .ok () (w.setRow g (spl cur o vs).toArray) := by
  have := run_storeCells_at P g o t vs 0 cur.toArray w hg (by simpa using hfit) h1
  simp only [Nat.add_zero] at this
  rw [this]; simp [spl]
theorem words_one (l : List (BitVec 32)) : ∀ v ∈ l.map fun x => Value.int .u32 (U x), v.oneCell' = true := by
  intro v hv; simp only [List.mem_map] at hv; obtain ⟨x, _, rfl⟩ := hv; rfl
theorem setRow_blk {w : World} {g : Nat} {cur : List Value} {t : TypeId} (hg : Blk w g cur t) (cs : List Value) : Blk (w.setRow g cs.toArray) g cs t := setRow_heap w g _ _ t _ hg
theorem setRow_save (w : World) (B g : Nat) (cs : Array Value) : Save B g w (w.setRow g cs) := ⟨rfl, rfl, rfl, by simp [World.setRow], fun k _ hn => setRow_other w g k cs hn⟩

theorem wpList_copy_str {P : Program} {w : World} {ops : Array Oper} {rest : List Oper} {o : Oper} {a : Act} {Q : Exit → Act → World → Prop} (hgd : o.guard = none) (d s : Operand) (dT sT : TypeId)
    (ho : o.op = .call { callee := .builtin .copy, args := #[d, s], argTypes := #[dT, sT] }) (elem : TypeId) (hu : P.underlying dT = some (.slice elem)) (hsz : (P.info? elem).map (·.size) = some 1)
    (g off dLen dCap : Nat) (str : ByteArray) (hd : a.eval d = .slice (some ⟨g, off, none⟩) dLen dCap) (hs : a.eval s = .string str)
    (cur : List Value) (t : TypeId) (hg : Blk w g cur t) (hfit : off + Nat.min str.size dLen ≤ cur.length)
    (h : ∀ w', Box (Blk w' g (spl cur off ((str.data.toList.take (Nat.min str.size dLen)).map yc)) t) → Box (∀ B, Save B g w w') → wpList P ops Q rest (a.put o.dst (goInt (Nat.min str.size dLen))) w') :
    wpList P ops Q (o :: rest) a w := by
  refine wpList_plain hgd fun K hK => ?_
  have hrun := run_copy_str (P := P) w dT sT o.type elem g off dLen dCap str cur t hu hsz hg hfit
  generalize (str.data.toList.take (Nat.min str.size dLen)).map yc = X at hrun h
  unfold Oper.wp
  simp [execOp, ho, resolve, invoke, builtin, hd, hs, hrun, Result.andThen]
  exact hK _ _ (h _ ⟨setRow_blk hg _⟩ ⟨fun B => setRow_save w B g _⟩)

/-! ### A digest's cells -/
def dcells (st : S8) (bl : List UInt8) (n : Nat) : List Value := st.cells ++ (bl.map yc ++ [.int .i64 (n : Int)])
theorem S8.cells_length (st : S8) : st.cells.length = 8 := rfl
theorem dcells_length (st : S8) (bl : List UInt8) (n : Nat) (h : bl.length = 64) : (dcells st bl n).length = 73 := by
  simp [dcells, S8.cells_length, h]
theorem dcells_size (st : S8) (bl : List UInt8) (n : Nat) (h : bl.length = 64) : (dcells st bl n)[72]? = some (.int .i64 (n : Int)) := by
  rw [dcells, List.getElem?_append_right (by rw [S8.cells_length]; omega), List.getElem?_append_right (by simp [S8.cells_length, h])]
  simp [S8.cells_length, h]
theorem dcells_set (st : S8) (bl : List UInt8) (n m : Nat) (h : bl.length = 64) : (dcells st bl n).set 72 (.int .i64 (m : Int)) = dcells st bl m := by
  rw [dcells, List.set_append_right _ _ (by rw [S8.cells_length]; omega), List.set_append_right _ _ (by simp [S8.cells_length, h])]
  simp [S8.cells_length, h, dcells]
theorem dcells_block (bl : List UInt8) (n i : Nat) (h : bl.length = 64) (hi : i < 64) : (bl.map yc ++ [Value.int .i64 (n : Int)])[i]? = some (.int .u8 (Y (bl.getD i 0))) := by
  rw [List.getElem?_append_left (by simp [h]; exact hi)]
  simp [List.getD, h, hi, yc]
theorem dcells_spl (st : S8) (bl : List UInt8) (N u : Nat) (s : List UInt8) (h : bl.length = 64) (hu : u + s.length ≤ 64) : spl (dcells st bl N) (8 + u) (s.map yc) = dcells st (spl bl u s) N := by
  have h1 : (dcells st bl N).take (8 + u) = st.cells ++ (bl.take u).map yc := by
    rw [dcells, List.take_append, S8.cells_length, List.take_of_length_le (by rw [S8.cells_length]; omega), show 8 + u - 8 = u by omega, List.take_append_of_le_length (by simp [h]; omega), List.map_take]
  have h2 : (dcells st bl N).drop (8 + u + s.length) = (bl.drop (u + s.length)).map yc ++ [.int .i64 (N : Int)] := by
    rw [dcells, List.drop_append, S8.cells_length, List.drop_of_length_le (by rw [S8.cells_length]; omega), show 8 + u + s.length - 8 = u + s.length by omega, List.drop_append_of_le_length (by simp [h]; omega), List.map_drop]
    rfl
  rw [spl, List.length_map, h1, h2, dcells, spl]
  simp [List.append_assoc]
end Go.Proofs.YthnbhaffphopoaaGreatDoor

namespace Go.Proofs.YthnbhaffphopoaaGreatDoor
open Go.RowKit

def first : S8 := ⟨0x6a09e667, 0xbb67ae85, 0x3c6ef372, 0xa54ff53a, 0x510e527f, 0x9b05688c, 0x1f83d9ab, 0x5be0cd19⟩
def blockAt (m : List UInt8) (k : Nat) : List UInt8 := (m.drop (64 * k)).take 64
def stateAt (m : List UInt8) : Nat → S8
  | 0 => first
  | k + 1 => comp (blockAt m k) (stateAt m k)
theorem blockAt_append (m s : List UInt8) (k : Nat) (h : 64 * (k + 1) ≤ m.length) : blockAt (m ++ s) k = blockAt m k := by
  unfold blockAt
  rw [List.drop_append_of_le_length (by omega), List.take_append_of_le_length (by rw [List.length_drop]; omega)]
theorem stateAt_append (m s : List UInt8) : ∀ k, 64 * k ≤ m.length → stateAt (m ++ s) k = stateAt m k
  | 0, _ => rfl
  | k + 1, h => by rw [stateAt, stateAt, blockAt_append m s k h, stateAt_append m s k (by omega)]

theorem dcells_first (st : S8) (bl : List UInt8) (n : Nat) : spl (dcells st bl n) 0 (first8.map fun x => Value.int .u32 (U x)) = dcells first bl n := rfl
/-- A digest's block holds the text c, its size being told as N. -/
structure DigAt (w : World) (b : Nat) (c : List UInt8) (N : Nat) : Prop where
  ex : ∃ (k u : Nat) (bl : List UInt8), c.length = 64 * k + u ∧ u < 64 ∧ bl.length = 64 ∧ bl.take u = c.drop (64 * k) ∧ Blk w b (dcells (stateAt c k) bl N) 304
/-- A digest was handed the text m. -/
structure DigIs (w : World) (b : Nat) (m : List UInt8) : Prop where
  ex : DigAt w b m m.length ∨ (m = [] ∧ ∃ st bl, bl.length = 64 ∧ Blk w b (dcells st bl 0) 304)
/-- The same, laid open. -/
structure DigK (w : World) (b : Nat) (c : List UInt8) (N k u : Nat) (bl : List UInt8) : Prop where
  len : c.length = 64 * k + u
  lt : u < 64
  full : bl.length = 64
  tail : bl.take u = c.drop (64 * k)
  blk : Blk w b (dcells (stateAt c k) bl N) 304
theorem DigAt.open {w : World} {b : Nat} {c : List UInt8} {N : Nat} (h : DigAt w b c N) : ∃ k u bl, DigK w b c N k u bl := by
  obtain ⟨k, u, bl, h1, h2, h3, h4, h5⟩ := h.ex
  exact ⟨k, u, bl, h1, h2, h3, h4, h5⟩
theorem DigK.shut {w : World} {b : Nat} {c : List UInt8} {N k u : Nat} {bl : List UInt8} (h : DigK w b c N k u bl) : DigAt w b c N := ⟨k, u, bl, h.len, h.lt, h.full, h.tail, h.blk⟩
theorem DigK.size {w : World} {b : Nat} {c : List UInt8} {N k u : Nat} {bl : List UInt8} (h : DigK w b c N k u bl) : w.cell? ⟨b, 72, none⟩ = some (.int .i64 (N : Int)) := by
  rw [h.blk.cell, dcells_size _ _ _ h.full]
theorem DigK.free {w : World} {b : Nat} {c : List UInt8} {N k u : Nat} {bl : List UInt8} (h : DigK w b c N k u bl) (i : Nat) : w.frozen? ⟨b, i, none⟩ = false := h.blk.free i
theorem DigK.resize {w : World} {b : Nat} {c : List UInt8} {N k u : Nat} {bl : List UInt8} (h : DigK w b c N k u bl) (M : Nat) : DigK (w.setCell ⟨b, 72, none⟩ (.int .i64 (M : Int))) b c M k u bl := by
  refine ⟨h.len, h.lt, h.full, h.tail, ?_⟩
  have := h.blk.setCell 72 (.int .i64 (M : Int))
  rwa [dcells_set _ _ _ _ h.full] at this
theorem DigAt.at_u {w : World} {b : Nat} {c : List UInt8} {N k u : Nat} (h : DigAt w b c N) (hc : c.length = 64 * k + u) (hu : u < 64) : ∃ bl, DigK w b c N k u bl := by
  obtain ⟨k', u', bl, H⟩ := h.open
  have := H.len; have := H.lt
  obtain rfl : k' = k := by omega
  obtain rfl : u' = u := by omega
  exact ⟨bl, H⟩
/-- What a copy leaves: the part is laid in. -/
theorem DigK.laid {w w' : World} {b : Nat} {c : List UInt8} {N k u n : Nat} {bl s : List UInt8} (h : DigK w b c N k u bl) (hn : (s.take n).length = n) (hs : u + n ≤ 64)
    (hB : Blk w' b (spl (dcells (stateAt c k) bl N) (8 + u) ((s.take n).map yc)) 304) : Blk w' b (dcells (stateAt c k) (spl bl u (s.take n)) N) 304 := by
  rwa [dcells_spl _ _ _ _ _ h.full (by omega)] at hB
theorem DigIs.empty {w : World} {b : Nat} (h : DigIs w b []) : ∃ st bl, bl.length = 64 ∧ Blk w b (dcells st bl 0) 304 := by
  obtain ⟨⟨k, u, bl, _, _, hb, _, hB⟩⟩ | ⟨_, h⟩ := h.ex
  · exact ⟨_, bl, hb, hB⟩
  · exact h
theorem DigIs.at {w : World} {b : Nat} {m : List UInt8} (h : DigIs w b m) (hm : m ≠ []) : DigAt w b m m.length := by
  obtain h | ⟨h, _⟩ := h.ex
  · exact h
  · exact absurd h hm
theorem DigAt.start {w : World} {b : Nat} {bl : List UInt8} (hb : bl.length = 64) (h : Blk w b (dcells first bl 0) 304) : DigAt w b [] 0 :=
  ⟨0, 0, bl, rfl, by omega, hb, rfl, h⟩
theorem spl_take (bl : List UInt8) (u : Nat) (s : List UInt8) (h : bl.length = 64) (hu : u + s.length ≤ 64) : (spl bl u s).take (u + s.length) = bl.take u ++ s := by
  rw [spl, ← List.append_assoc, List.take_append_of_le_length (by simp; omega), List.take_of_length_le (by simp; omega)]
/-- A part is laid into the block that isn't full. -/
theorem DigAt.part {w' : World} {b : Nat} {c s : List UInt8} {N k u : Nat} {bl : List UInt8} (hc : c.length = 64 * k + u) (hb : bl.length = 64) (ht : bl.take u = c.drop (64 * k)) (hs : u + s.length < 64)
    (hB : Blk w' b (dcells (stateAt c k) (spl bl u s) N) 304) : DigAt w' b (c ++ s) N := by
  refine ⟨k, u + s.length, spl bl u s, by rw [List.length_append]; omega, hs, by rw [spl_length _ _ _ (by omega)]; exact hb, ?_, ?_⟩
  · rw [spl_take bl u s hb (by omega), ht, List.drop_append_of_le_length (by omega)]
  · rw [stateAt_append c s k (by omega)]; exact hB
/-- The part that fills the block, which is mixed in. -/
theorem DigAt.full {w' : World} {b : Nat} {c s : List UInt8} {N k u : Nat} {bl : List UInt8} (hc : c.length = 64 * k + u) (hb : bl.length = 64) (ht : bl.take u = c.drop (64 * k)) (hs : u + s.length = 64)
    (hB : Blk w' b (dcells (comp (spl bl u s) (stateAt c k)) (spl bl u s) N) 304) : DigAt w' b (c ++ s) N := by
  have e1 : (spl bl u s) = blockAt (c ++ s) k := by
    have h1 := spl_take bl u s hb (by omega)
    rw [List.take_of_length_le (by rw [spl_length _ _ _ (by omega)]; omega)] at h1
    rw [blockAt, List.drop_append_of_le_length (by omega), List.take_of_length_le (by rw [List.length_append, List.length_drop]; omega), h1, ht]
  refine ⟨k + 1, 0, spl bl u s, by rw [List.length_append]; omega, by omega, by rw [spl_length _ _ _ (by omega)]; exact hb, ?_, ?_⟩
  · rw [List.drop_of_length_le (by rw [List.length_append]; omega)]; rfl
  · rw [stateAt, ← e1, stateAt_append c s k (by omega)]; exact hB
theorem data_len (r : ByteArray) : r.data.toList.length = r.size := by rw [Array.length_toList]; rfl
/-- What is left of a text behind its first n bytes. -/
theorem rest_data (r : ByteArray) (n : Nat) : (r.extract n r.size).data.toList = r.data.toList.drop n := by
  rw [ByteArray.data_extract, Array.toList_extract, List.extract_eq_take_drop]
  rw [List.take_of_length_le (by rw [List.length_drop, data_len]; omega)]
theorem rest_size (r : ByteArray) (n : Nat) (h : n ≤ r.size) : (r.extract n r.size).size = r.size - n := by
  rw [ByteArray.size_extract]; omega
theorem take_len (r : ByteArray) (n : Nat) (h : n ≤ r.size) : (r.data.toList.take n).length = n := by
  rw [List.length_take, data_len]; omega
theorem goes_on {c m : List UInt8} {r : ByteArray} {n : Nat} (h : c ++ r.data.toList = m) : (c ++ r.data.toList.take n) ++ (r.extract n r.size).data.toList = m := by
  rw [rest_data, List.append_assoc, List.take_append_drop]; exact h
theorem min_part {r u n : Nat} (h : Nat.min r (64 - u) = n) (hu : u < 64) (h0 : 0 < r) : r - n < r ∧ n ≤ r ∧ u + n ≤ 64 := by
  rcases Nat.le_total r (64 - u) with h1 | h1
  · have : Nat.min r (64 - u) = r := Nat.min_eq_left h1
    omega
  · have : Nat.min r (64 - u) = 64 - u := Nat.min_eq_right h1
    omega
end Go.Proofs.YthnbhaffphopoaaGreatDoor

namespace Go.Proofs.YthnbhaffphopoaaGreatDoor
open Go.RowKit

set_option maxHeartbeats 400000 in
set_option maxRecDepth 100000 in
theorem begin_zero (b : Nat) (st : S8) (bl : List UInt8) (w : World) (hbl : bl.length = 64) (hB : Blk w b (dcells st bl 0) 304) :
    Calls Tryz.prog 301 #[.pointer (some ⟨b, 0, none⟩)] w fun e w' => e = .returned (.tuple #[]) ∧ DigAt w' b [] 0 ∧ Save w.heap.size b w w' := by
  have c72 := hB.cell 72
  rw [dcells_size _ _ _ hbl] at c72
  have hlt := hB.lt
  have hB2 := hB.alloc (.cells (first8.map fun x => Value.int .u32 (U x)).toArray 290)
  have hst := run_store_row (P := Tryz.prog) (o := 0) hB2 (first8.map fun x => Value.int .u32 (U x)) (by rw [dcells_length _ _ _ hbl]; decide) (words_one _)
  rw [dcells_first] at hst
  have HB := Box.mk hB2
  clear hB hB2
  go_enter Tryz.func301, Tryz.ntmps301
  go_wp2_with (go_at_call 332; refine (first_any _).mono ?_; rintro e w' ⟨rfl, rfl⟩)
  go_end0
  refine ⟨rfl, DigAt.start hbl (setRow_blk HB.out _), ?_⟩
  exact ((Save.refl _ _ _).alloc (Nat.le_refl _) _).trans (setRow_save _ _ _ _)
set_option maxHeartbeats 400000 in
set_option maxRecDepth 100000 in
theorem begin_some (b : Nat) (st : S8) (bl : List UInt8) (n : Nat) (w : World) (hbl : bl.length = 64) (hn : 0 < n) (hB : Blk w b (dcells st bl n) 304) :
    Calls Tryz.prog 301 #[.pointer (some ⟨b, 0, none⟩)] w fun e w' => e = .returned (.tuple #[]) ∧ w = w' := by
  have c72 := hB.cell 72
  rw [dcells_size _ _ _ hbl] at c72
  have h0 : ((n : Int) == 0) = false := by simp; omega
  clear hB
  go_enter Tryz.func301, Tryz.ntmps301
  go_wp2
  go_end0
  exact ⟨rfl, rfl⟩
theorem begin_any (b : Nat) (m : List UInt8) (w : World) (h : DigIs w b m) :
    Calls Tryz.prog 301 #[.pointer (some ⟨b, 0, none⟩)] w fun e w' => e = .returned (.tuple #[]) ∧ DigAt w' b m m.length ∧ Save w.heap.size b w w' := by
  by_cases hm : m = []
  · subst hm
    obtain ⟨st, bl, hbl, hB⟩ := h.empty
    exact begin_zero b st bl w hbl hB
  · have hA := h.at hm
    obtain ⟨k, u, bl, hc, hu, hbl, ht, hB⟩ := hA.ex
    refine (begin_some b _ bl _ w hbl (List.length_pos_iff.2 hm) hB).mono fun e w' ⟨he, hw⟩ => ?_
    subst hw
    exact ⟨he, hA, Save.refl _ _ _⟩
end Go.Proofs.YthnbhaffphopoaaGreatDoor

namespace Go.Proofs.YthnbhaffphopoaaGreatDoor
open Go.RowKit
theorem len_block : Tryz.prog.arrayLen 121 = 64 := by kernel_rfl
theorem elem_block : Tryz.prog.elem 121 = 5 := by kernel_rfl
theorem info_u8 : (Tryz.prog.info? 5).map (·.size) = some 1 := by kernel_rfl
theorem size_u8 (w : World) : (sizeOf 5).run Tryz.prog w = .ok 1 w := by
  have := info_u8
  cases hq : Tryz.prog.info? 5 with
  | none => rw [hq] at this; cases this
  | some i =>
    rw [hq] at this
    simp only [Option.map_some, Option.some.injEq] at this
    simp [sizeOf, typeInfo, hq, this]
theorem slice_block (w : World) (b o u : Nat) (hu : u < 64) :
    (Instr.sliceAt 121 (.pointer (some ⟨b, o, none⟩)) (some (.int .i64 (u : Int))) none none).run Tryz.prog w = .ok (.slice (some ⟨b, o + u, none⟩) (64 - u) (64 - u)) w := by
  rw [run_sliceAt_array_l w 121 ⟨b, o, none⟩ (by rw [len_block, elem_block]; exact Tryz.underlying121) .i64 u (by omega) (by rw [len_block]; omega), len_block, elem_block, size_u8]
  have : ¬ 64 = u := by omega
  simp [Result.andThen, slicedAt, this, Addr.add]
end Go.Proofs.YthnbhaffphopoaaGreatDoor

namespace Go.Proofs.YthnbhaffphopoaaGreatDoor
open Go.RowKit

theorem KIs.apart {w : World} {b : Nat} {st : S8} {bl : List UInt8} {n : Nat} {t : TypeId} (h : KIs w) (hbl : bl.length = 64) (hB : Blk w b (dcells st bl n) t) : b ≠ 6 := by
  intro e
  subst e
  have h1 := h 8 (by omega)
  rw [hB.cell, dcells, List.getElem?_append_right (by rw [S8.cells_length]; omega), S8.cells_length, dcells_block bl n 0 hbl (by omega)] at h1
  simp at h1

theorem KIs.apart' {w : World} {b : Nat} {m : List UInt8} (h : KIs w) (hD : DigIs w b m) : b ≠ 6 := by
  obtain ⟨⟨k, u, bl, _, _, hb, _, hB⟩⟩ | ⟨_, st, bl, hb, hB⟩ := hD.ex
  · exact h.apart hb hB
  · exact h.apart hb hB

set_option maxHeartbeats 800000 in
set_option maxRecDepth 100000 in
theorem add_some (b : Nat) (m : List UInt8) (s : ByteArray) (w : World) (hD : DigIs w b m) (hK : KIs w) (hsz : m.length + s.size ≤ 4611686018427387904) :
    Calls Tryz.prog 253 #[.pointer (some ⟨b, 0, none⟩), .string s] w fun e w' => e = .returned (.tuple #[]) ∧ DigAt w' b (m ++ s.data.toList) (m.length + s.size) ∧ Save w.heap.size b w w' := by
  have hbK := Box.mk (hK.apart' hD)
  obtain ⟨N, hN⟩ : ∃ N, m.length = N := ⟨_, rfl⟩
  have hbeg := begin_any b m w hD
  rw [hN] at hbeg hsz
  rw [hN]
  replace hN := Box.mk hN
  clear hD
  go_enter Tryz.func253, Tryz.ntmps253
  go_wp2_with (go_at_call 301; refine hbeg.mono ?_; rintro e w1 ⟨rfl, hA, hS⟩; obtain ⟨k, u, bl, hD⟩ := hA.open; have c72 := hD.size; have f72 := hD.free 72; have hS' := Box.mk hS; clear hS hA)
  go_loopw [1, 4] (fun s1 s4 wr => ∃ (c : List UInt8) (r : ByteArray) (k u : Nat) (bl : List UInt8), s1 = .string r ∧ s4 = .int .i64 u ∧ Box (c ++ r.data.toList = m ++ s.data.toList) ∧ DigK wr b c (N + s.size) k u bl ∧ Box (Save w.heap.size b w wr) ∧ r.size ≤ 4611686018427387904) (fun s1 _ _ => match s1 with | .string r => r.size | _ => 0)
  case atStart =>
    refine ⟨m, s, k, u, bl, rfl, ?_, ⟨rfl⟩, hD.resize _, ⟨hS'.out.setCell (.inl rfl) _⟩, by omega⟩
    have h1 := hN.out; have h2 := hD.len; have h3 := hD.lt
    exact u_eq (by omega)
  case round =>
    clear hD c72 f72 hS'
    obtain ⟨c, r, k, u, bl, rfl, rfl, hc, hD, hS, hr⟩ := hrel
    have hK' : Box (KIs wr) := ⟨hK.save hS.out hK.lt hbK.out⟩
    by_cases h0 : 0 < r.size
    · obtain ⟨n, hn⟩ : ∃ n, Nat.min r.size (64 - u) = n := ⟨_, rfl⟩
      have hu := hD.lt
      have hn1 : n ≤ r.size := hn ▸ Nat.min_le_left _ _
      have hn2 : u + n ≤ 64 := by
        have h2 := Nat.min_le_right r.size (64 - u)
        rw [show min r.size (64 - u) = n from hn] at h2; omega
      replace hn := Box.mk hn
      have hsl := slice_block wr b 8 u hu
      have hfit : 8 + u + Nat.min r.size (64 - u) ≤ (dcells (stateAt c k) bl (N + s.size)).length := by
        rw [dcells_length _ _ _ hD.full, hn.out]; omega
      have HD := Box.mk hD
      have HF := Box.mk hfit
      have HB := hD.blk
      clear hD hfit
      have hmeas := (min_part hn.out hu h0).1
      by_cases h64 : u + n = 64
      · have ht : ((u : Int) + (n : Int) == 64) = true := by simp; omega
        go_wp2_with (refine wpList_copy_str rfl (.tmp 31) (.tmp 32) 47 9 rfl 5 Tryz.underlying47 info_u8 b (8 + u) (64 - u) (64 - u) r rfl rfl _ 304 HB HF.out ?_; intro w2 hB2 hS2; rw [hn.out] at hB2 ⊢)
        refine region_quiet_tail_lit 6 (by kernel_rfl) (by kernel_rfl) ?_
        simp only [List.take_succ_cons, List.take_zero, List.drop_succ_cons, List.drop_zero]
        repeat (go_big_quiet_step (fail))
        refine wpQuiet_nil ?_
        intro _ hw'
        obtain ⟨nq, hw''⟩ := hw'
        subst hw''
        have hB3 := HD.out.laid (take_len r n hn1) hn2 hB2.out
        have hK2 : KIs w2 := hK'.out.save (hS2.out _) hK'.out.lt hbK.out
        have HMix := mix_any b (spl bl u (r.data.toList.take n)) (stateAt c k) _ (w2.drewN nq) 304 hB3 (fun i hi => dcells_block _ _ i (by rw [spl_length _ _ _ (by rw [HD.out.full, take_len r n hn1]; exact hn2)]; exact HD.out.full) hi) hK2
        go_wp2_with (go_at_call 302; refine HMix.mono ?_; rintro e w3 ⟨rfl, hB4, hS4⟩; replace hB4 := Box.mk hB4; replace hS4 := Box.mk hS4)
        have hd := HD.out
        have hA := DigAt.full (s := r.data.toList.take n) hd.len hd.full hd.tail (by rw [take_len r n hn1]; exact h64) hB4.out
        obtain ⟨bl', hK4⟩ := hA.at_u (k := k + 1) (u := 0) (by rw [List.length_append, take_len r n hn1, hd.len]; omega) (by omega)
        refine ⟨⟨c ++ r.data.toList.take n, r.extract n r.size, k + 1, 0, bl', rfl, rfl, ⟨goes_on hc.out⟩, hK4, ⟨((hS.out.trans (hS2.out _)).drewN nq).trans (hS4.out.mono ?_)⟩, ?_⟩, ?_⟩
        · exact Nat.le_trans hS.out.size (hS2.out 0).size
        · rw [rest_size r n hn1]; omega
        · show (r.extract n r.size).size < r.size
          rw [rest_size r n hn1]; exact hmeas
      · have ht : ((u : Int) + (n : Int) == 64) = false := by simp; omega
        go_wp2_with (refine wpList_copy_str rfl (.tmp 31) (.tmp 32) 47 9 rfl 5 Tryz.underlying47 info_u8 b (8 + u) (64 - u) (64 - u) r rfl rfl _ 304 HB HF.out ?_; intro w2 hB2 hS2; rw [hn.out] at hB2 ⊢)
        have hd := HD.out
        have hB3 := hd.laid (take_len r n hn1) hn2 hB2.out
        have hA := DigAt.part (s := r.data.toList.take n) hd.len hd.full hd.tail (by rw [take_len r n hn1]; omega) hB3
        obtain ⟨bl', hK4⟩ := hA.at_u (k := k) (u := u + n) (by rw [List.length_append, take_len r n hn1, hd.len]; omega) (by omega)
        refine ⟨⟨c ++ r.data.toList.take n, r.extract n r.size, k, u + n, bl', rfl, by go_num, ⟨goes_on hc.out⟩, hK4, ⟨hS.out.trans (hS2.out _)⟩, ?_⟩, ?_⟩
        · rw [rest_size r n hn1]; omega
        · show (r.extract n r.size).size < r.size
          rw [rest_size r n hn1]; exact hmeas
    · go_wp2
      go_end0
      refine ⟨rfl, ?_, hS.out⟩
      have : r.data.toList = [] := by
        have : r.data.toList.length = r.size := by rw [Array.length_toList]; rfl
        exact List.length_eq_zero_iff.1 (by omega)
      have e := hc.out
      rw [this, List.append_nil] at e
      rw [← e]
      exact hD.shut
end Go.Proofs.YthnbhaffphopoaaGreatDoor
