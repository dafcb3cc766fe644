/- Plain facts: what a digest holds of a text. -/
import Derived.Test.YtdnhpldcnmbncaaDoorCs
namespace Go.Proofs.YtdnhpldcnmbncaaDoor
open Go.RowKit

def first : S8 := ⟨0x6a09e667, 0xbb67ae85, 0x3c6ef372, 0xa54ff53a, 0x510e527f, 0x9b05688c, 0x1f83d9ab, 0x5be0cd19⟩
def blockAt (m : List UInt8) (k : Nat) : List UInt8 := (m.drop (64 * k)).take 64
def stateAt (m : List UInt8) : Nat → S8
  | 0 => first
  | k + 1 => comp (blockAt m k) (stateAt m k)
theorem blockAt_append (m s : List UInt8) (k : Nat) (h : 64 * (k + 1) ≤ m.length) : blockAt (m ++ s) k = blockAt m k := by
  unfold blockAt
  rw [List.drop_append_of_le_length (by omega), List.take_append_of_le_length (by rw [List.length_drop]; omega)]
theorem stateAt_append (m s : List UInt8) : ∀ k, 64 * k ≤ m.length → stateAt (m ++ s) k = stateAt m k
  | 0, _ => rfl
  | k + 1, h => by rw [stateAt, stateAt, blockAt_append m s k h, stateAt_append m s k (by omega)]

theorem dcells_first (st : S8) (bl : List UInt8) (n : Nat) : spl (dcells st bl n) 0 (first8.map fun x => Value.int .u32 (U x)) = dcells first bl n := rfl
/-- A digest's block holds the text c, its size being told as N. -/
structure DigAt (w : World) (b : Nat) (c : List UInt8) (N : Nat) : Prop where
  ex : ∃ (k u : Nat) (bl : List UInt8), c.length = 64 * k + u ∧ u < 64 ∧ bl.length = 64 ∧ bl.take u = c.drop (64 * k) ∧ Blk w b (dcells (stateAt c k) bl N) 77
/-- A digest was handed the text m. -/
structure DigIs (w : World) (b : Nat) (m : List UInt8) : Prop where
  ex : DigAt w b m m.length ∨ (m = [] ∧ ∃ st bl, bl.length = 64 ∧ Blk w b (dcells st bl 0) 77)
/-- The same, laid open. -/
structure DigK (w : World) (b : Nat) (c : List UInt8) (N k u : Nat) (bl : List UInt8) : Prop where
  len : c.length = 64 * k + u
  lt : u < 64
  full : bl.length = 64
  tail : bl.take u = c.drop (64 * k)
  blk : Blk w b (dcells (stateAt c k) bl N) 77
theorem DigAt.open {w : World} {b : Nat} {c : List UInt8} {N : Nat} (h : DigAt w b c N) : ∃ k u bl, DigK w b c N k u bl := by
  obtain ⟨k, u, bl, h1, h2, h3, h4, h5⟩ := h.ex
  exact ⟨k, u, bl, h1, h2, h3, h4, h5⟩
theorem DigK.shut {w : World} {b : Nat} {c : List UInt8} {N k u : Nat} {bl : List UInt8} (h : DigK w b c N k u bl) : DigAt w b c N := ⟨k, u, bl, h.len, h.lt, h.full, h.tail, h.blk⟩
theorem DigK.size {w : World} {b : Nat} {c : List UInt8} {N k u : Nat} {bl : List UInt8} (h : DigK w b c N k u bl) : w.cell? ⟨b, 72, none⟩ = some (.int .i64 (N : Int)) := by
  rw [h.blk.cell, dcells_size _ _ _ h.full]
theorem DigK.free {w : World} {b : Nat} {c : List UInt8} {N k u : Nat} {bl : List UInt8} (h : DigK w b c N k u bl) (i : Nat) : w.frozen? ⟨b, i, none⟩ = false := h.blk.free i
theorem DigK.resize {w : World} {b : Nat} {c : List UInt8} {N k u : Nat} {bl : List UInt8} (h : DigK w b c N k u bl) (M : Nat) : DigK (w.setCell ⟨b, 72, none⟩ (.int .i64 (M : Int))) b c M k u bl := by
  refine ⟨h.len, h.lt, h.full, h.tail, ?_⟩
  have := h.blk.setCell 72 (.int .i64 (M : Int))
  rwa [dcells_set _ _ _ _ h.full] at this
theorem DigAt.at_u {w : World} {b : Nat} {c : List UInt8} {N k u : Nat} (h : DigAt w b c N) (hc : c.length = 64 * k + u) (hu : u < 64) : ∃ bl, DigK w b c N k u bl := by
  obtain ⟨k', u', bl, H⟩ := h.open
  have := H.len; have := H.lt
  obtain rfl : k' = k := by omega
  obtain rfl : u' = u := by omega
  exact ⟨bl, H⟩
/-- What a copy leaves: the part is laid in. -/
theorem DigK.laid {w w' : World} {b : Nat} {c : List UInt8} {N k u n : Nat} {bl s : List UInt8} (h : DigK w b c N k u bl) (hn : (s.take n).length = n) (hs : u + n ≤ 64)
    (hB : Blk w' b (spl (dcells (stateAt c k) bl N) (8 + u) ((s.take n).map yc)) 77) : Blk w' b (dcells (stateAt c k) (spl bl u (s.take n)) N) 77 := by
  rwa [dcells_spl _ _ _ _ _ h.full (by omega)] at hB
theorem DigIs.empty {w : World} {b : Nat} (h : DigIs w b []) : ∃ st bl, bl.length = 64 ∧ Blk w b (dcells st bl 0) 77 := by
  obtain ⟨⟨k, u, bl, _, _, hb, _, hB⟩⟩ | ⟨_, h⟩ := h.ex
  · exact ⟨_, bl, hb, hB⟩
  · exact h
theorem DigIs.at {w : World} {b : Nat} {m : List UInt8} (h : DigIs w b m) (hm : m ≠ []) : DigAt w b m m.length := by
  obtain h | ⟨h, _⟩ := h.ex
  · exact h
  · exact absurd h hm
theorem DigAt.start {w : World} {b : Nat} {bl : List UInt8} (hb : bl.length = 64) (h : Blk w b (dcells first bl 0) 77) : DigAt w b [] 0 :=
  ⟨0, 0, bl, rfl, by omega, hb, rfl, h⟩
theorem spl_take (bl : List UInt8) (u : Nat) (s : List UInt8) (h : bl.length = 64) (hu : u + s.length ≤ 64) : (spl bl u s).take (u + s.length) = bl.take u ++ s := by
  rw [spl, ← List.append_assoc, List.take_append_of_le_length (by simp; omega), List.take_of_length_le (by simp; omega)]
/-- A part is laid into the block that isn't full. -/
theorem DigAt.part {w' : World} {b : Nat} {c s : List UInt8} {N k u : Nat} {bl : List UInt8} (hc : c.length = 64 * k + u) (hb : bl.length = 64) (ht : bl.take u = c.drop (64 * k)) (hs : u + s.length < 64)
    (hB : Blk w' b (dcells (stateAt c k) (spl bl u s) N) 77) : DigAt w' b (c ++ s) N := by
  refine ⟨k, u + s.length, spl bl u s, by rw [List.length_append]; omega, hs, by rw [spl_length _ _ _ (by omega)]; exact hb, ?_, ?_⟩
  · rw [spl_take bl u s hb (by omega), ht, List.drop_append_of_le_length (by omega)]
  · rw [stateAt_append c s k (by omega)]; exact hB
/-- The part that fills the block, which is mixed in. -/
theorem DigAt.full {w' : World} {b : Nat} {c s : List UInt8} {N k u : Nat} {bl : List UInt8} (hc : c.length = 64 * k + u) (hb : bl.length = 64) (ht : bl.take u = c.drop (64 * k)) (hs : u + s.length = 64)
    (hB : Blk w' b (dcells (comp (spl bl u s) (stateAt c k)) (spl bl u s) N) 77) : DigAt w' b (c ++ s) N := by
  have e1 : (spl bl u s) = blockAt (c ++ s) k := by
    have h1 := spl_take bl u s hb (by omega)
    rw [List.take_of_length_le (by rw [spl_length _ _ _ (by omega)]; omega)] at h1
    rw [blockAt, List.drop_append_of_le_length (by omega), List.take_of_length_le (by rw [List.length_append, List.length_drop]; omega), h1, ht]
  refine ⟨k + 1, 0, spl bl u s, by rw [List.length_append]; omega, by omega, by rw [spl_length _ _ _ (by omega)]; exact hb, ?_, ?_⟩
  · rw [List.drop_of_length_le (by rw [List.length_append]; omega)]; rfl
  · rw [stateAt, ← e1, stateAt_append c s k (by omega)]; exact hB
theorem data_len (r : ByteArray) : r.data.toList.length = r.size := by rw [Array.length_toList]; rfl
/-- What is left of a text behind its first n bytes. -/
theorem rest_data (r : ByteArray) (n : Nat) : (r.extract n r.size).data.toList = r.data.toList.drop n := by
  rw [ByteArray.data_extract, Array.toList_extract, List.extract_eq_take_drop]
  rw [List.take_of_length_le (by rw [List.length_drop, data_len]; omega)]
theorem rest_size (r : ByteArray) (n : Nat) (h : n ≤ r.size) : (r.extract n r.size).size = r.size - n := by
  rw [ByteArray.size_extract]; omega
theorem take_len (r : ByteArray) (n : Nat) (h : n ≤ r.size) : (r.data.toList.take n).length = n := by
  rw [List.length_take, data_len]; omega
theorem goes_on {c m : List UInt8} {r : ByteArray} {n : Nat} (h : c ++ r.data.toList = m) : (c ++ r.data.toList.take n) ++ (r.extract n r.size).data.toList = m := by
  rw [rest_data, List.append_assoc, List.take_append_drop]; exact h
theorem min_part {r u n : Nat} (h : Nat.min r (64 - u) = n) (hu : u < 64) (h0 : 0 < r) : r - n < r ∧ n ≤ r ∧ u + n ≤ 64 := by
  rcases Nat.le_total r (64 - u) with h1 | h1
  · have : Nat.min r (64 - u) = r := Nat.min_eq_left h1
    omega
  · have : Nat.min r (64 - u) = 64 - u := Nat.min_eq_right h1
    omega
end Go.Proofs.YtdnhpldcnmbncaaDoor
