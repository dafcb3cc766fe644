/- One-time signatures as functions on texts: secrets, links, digits, signatures. No program is named. -/
import Derived.Test.YtdjppgmaokcgiaaGreatDoorOtT
namespace Go.Proofs.YtdjppgmaokcgiaaGreatDoor
open Go.RowKit

def by1 (k : Nat) : ByteArray := one (UInt8.ofNat k)
def two (x y : UInt8) : ByteArray := ⟨#[x, y]⟩
def by2 (n : Nat) : ByteArray := two (UInt8.ofNat (n / 256)) (UInt8.ofNat n)
theorem hashL_length (m : List UInt8) : (hashL m).length = 32 := by
  rw [hashL]
  generalize stateAt (padded m) ((padded m).length / 64) = s
  rw [← List.take_of_length_le (l := s.list) (i := 8) (Nat.le_refl 8), flat4 s 8 (Nat.le_refl 8)]
theorem hashOf_size (m : List UInt8) : (hashOf m).size = 32 := by
  rw [show (hashOf m).size = (hashL m).length from by simp [hashOf, ByteArray.size], hashL_length]
/-- A tagged hash; its first sixteen bytes. -/
def tagS (k : UInt8) (ps : List ByteArray) : ByteArray := hashOf (tagL k ps)
def val (k : UInt8) (ps : List ByteArray) : ByteArray := (tagS k ps).extract 0 16
theorem tagS_size (k : UInt8) (ps : List ByteArray) : (tagS k ps).size = 32 := hashOf_size _
theorem val_size (k : UInt8) (ps : List ByteArray) : (val k ps).size = 16 := by
  rw [val, ByteArray.size_extract, tagS_size]; rfl
/-- A link, and c links from the place a. -/
def linkV (n i k : Nat) (x : ByteArray) : ByteArray := val 33 [by2 n, by1 i, by1 k, x]
def linksV (n i a : Nat) : Nat → ByteArray → ByteArray
  | 0, x => x
  | c + 1, x => linkV n i (a + c) (linksV n i a c x)
theorem linksV_add (n i a b : Nat) (x : ByteArray) : ∀ c, linksV n i a (b + c) x = linksV n i (a + b) c (linksV n i a b x)
  | 0 => rfl
  | c + 1 => by rw [← Nat.add_assoc, linksV, linksV, linksV_add n i a b x c, Nat.add_assoc]
theorem linksV_size (n i a : Nat) (x : ByteArray) (hx : x.size = 16) : ∀ c, (linksV n i a c x).size = 16
  | 0 => hx
  | _ + 1 => val_size _ _
def secV (s : ByteArray) (n i : Nat) : ByteArray := val 32 [s, by2 n, by1 i]
theorem secV_size (s : ByteArray) (n i : Nat) : (secV s n i).size = 16 := val_size _ _

/-- The digits that the first bytes of a text tell. -/
def lo (l : List UInt8) (i : Nat) : Nat := (l.getD i 0).toNat
def digP (l : List UInt8) : Nat → List Nat
  | 0 => []
  | i + 1 => digP l i ++ [lo l i / 16, lo l i % 16]
def lackN (l : List UInt8) : Nat → Nat
  | 0 => 0
  | i + 1 => lackN l i + ((15 - lo l i / 16) + (15 - lo l i % 16))
def digs (l : List UInt8) : List Nat := digP l 8 ++ [lackN l 8 / 16, lackN l 8 % 16]
theorem lo_lt (l : List UInt8) (i : Nat) : lo l i < 256 := (l.getD i 0).toNat_lt
theorem digP_length (l : List UInt8) : ∀ i, (digP l i).length = 2 * i
  | 0 => rfl
  | i + 1 => by rw [digP, List.length_append, digP_length l i]; rfl
theorem digs_length (l : List UInt8) : (digs l).length = 18 := by rw [digs, List.length_append, digP_length]; rfl
theorem lackN_le (l : List UInt8) : ∀ i, lackN l i ≤ 30 * i
  | 0 => Nat.le_refl _
  | i + 1 => by have := lackN_le l i; rw [lackN]; omega
theorem digP_le (l : List UInt8) : ∀ i, ∀ d ∈ digP l i, d ≤ 15
  | 0, d, h => by cases h
  | i + 1, d, h => by
    rw [digP, List.mem_append] at h
    have := lo_lt l i
    rcases h with h | h
    · exact digP_le l i d h
    · simp at h; omega
theorem digs_mem (l : List UInt8) : ∀ d ∈ digs l, d ≤ 15 := by
  intro d h
  rw [digs, List.mem_append] at h
  have := lackN_le l 8
  rcases h with h | h
  · exact digP_le l 8 d h
  · simp at h; omega
def dig (l : List UInt8) (j : Nat) : Nat := (digs l).getD j 0
theorem dig_le (l : List UInt8) (j : Nat) : dig l j ≤ 15 := by
  unfold dig
  rw [List.getD_eq_getElem?_getD]
  rcases h : (digs l)[j]? with _ | d
  · simp
  · exact digs_mem l d (List.mem_of_getElem? h)
/-- The same digits by the first eight bytes. -/
theorem lo_congr {l m : List UInt8} (h : ∀ i, i < 8 → l.getD i 0 = m.getD i 0) (i : Nat) (hi : i < 8) : lo l i = lo m i := by rw [lo, lo, h i hi]
theorem digP_congr {l m : List UInt8} (h : ∀ i, i < 8 → l.getD i 0 = m.getD i 0) : ∀ i, i ≤ 8 → digP l i = digP m i
  | 0, _ => rfl
  | i + 1, hi => by rw [digP, digP, digP_congr h i (by omega), lo_congr h i (by omega)]
theorem lackN_congr {l m : List UInt8} (h : ∀ i, i < 8 → l.getD i 0 = m.getD i 0) : ∀ i, i ≤ 8 → lackN l i = lackN m i
  | 0, _ => rfl
  | i + 1, hi => by rw [lackN, lackN, lackN_congr h i (by omega), lo_congr h i (by omega)]
theorem digs_congr {l m : List UInt8} (h : ∀ i, i < 8 → l.getD i 0 = m.getD i 0) : digs l = digs m := by
  rw [digs, digs, digP_congr h 8 (Nat.le_refl _), lackN_congr h 8 (Nat.le_refl _)]

/-- A row of eighteen numbers as cells: those that are known, zeros behind them. -/
def dcell (L : List Nat) : List Value := (L ++ List.replicate (18 - L.length) 0).map fun (n : Nat) => Value.int .i64 (n : Int)
theorem dcell_length (L : List Nat) (h : L.length ≤ 18) : (dcell L).length = 18 := by simp [dcell]; omega
theorem dcell_push (L : List Nat) (x : Nat) (k : Nat) (h : L.length = k) (hk : k < 18) : (dcell L).set k (.int .i64 (x : Int)) = dcell (L ++ [x]) := by
  subst h
  have : 18 - L.length = (18 - (L.length + 1)) + 1 := by omega
  simp [dcell, this, List.replicate_succ]
theorem dcell_get (L : List Nat) (h : L.length = 18) (j : Nat) (hj : j < 18) : (dcell L)[j]? = some (.int .i64 ((L.getD j 0 : Nat) : Int)) := by
  simp [dcell, h, hj, List.getD]
theorem dcell_zero (L : List Nat) (j : Nat) (h : L.length ≤ j) (hj : j < 18) : (dcell L)[j]? = some (.int .i64 0) := by
  rw [dcell, List.getElem?_map, List.getElem?_append_right h, List.getElem?_replicate]
  rw [if_pos (by omega)]; rfl

/-- Texts one behind the other. -/
def accL (g : Nat → ByteArray) : Nat → List UInt8
  | 0 => []
  | k + 1 => accL g k ++ (g k).data.toList
def accT (g : Nat → ByteArray) (k : Nat) : ByteArray := ⟨(accL g k).toArray⟩
theorem accT_zero (g : Nat → ByteArray) : accT g 0 = ⟨#[]⟩ := rfl
theorem accT_succ (g : Nat → ByteArray) (k : Nat) : accT g k ++ g k = accT g (k + 1) := by
  apply ByteArray.ext
  apply Array.ext'
  simp [accT, accL, ByteArray.data_append]
theorem accL_length (g : Nat → ByteArray) (hg : ∀ i, (g i).size = 16) : ∀ k, (accL g k).length = 16 * k
  | 0 => rfl
  | k + 1 => by rw [accL, List.length_append, accL_length g hg k, data_len, hg k]; omega
theorem accT_size (g : Nat → ByteArray) (hg : ∀ i, (g i).size = 16) (k : Nat) : (accT g k).size = 16 * k := by
  rw [show (accT g k).size = (accL g k).length from by simp [accT, ByteArray.size], accL_length g hg]
theorem accL_cut (g : Nat → ByteArray) (hg : ∀ i, (g i).size = 16) (i : Nat) : ∀ k, i < k → ((accL g k).drop (16 * i)).take 16 = (g i).data.toList
  | 0, h => by omega
  | k + 1, h => by
    have hl := accL_length g hg k
    have hgi : ∀ j, (g j).data.toList.length = 16 := fun j => by rw [data_len, hg j]
    rcases Nat.lt_or_ge i k with h1 | h1
    · rw [accL, List.drop_append_of_le_length (by omega), List.take_append_of_le_length (by rw [List.length_drop]; omega)]
      exact accL_cut g hg i k h1
    · obtain rfl : i = k := by omega
      rw [accL, ← hl, List.drop_left, List.take_of_length_le (by rw [hgi]; exact Nat.le_refl _)]
theorem accT_cut (g : Nat → ByteArray) (hg : ∀ i, (g i).size = 16) (i k : Nat) (h : i < k) : (accT g k).extract (16 * i) (16 * i + 16) = g i := by
  apply ByteArray.ext
  apply Array.ext'
  rw [ByteArray.data_extract, Array.toList_extract, List.extract_eq_take_drop, show 16 * i + 16 - 16 * i = 16 by omega]
  exact accL_cut g hg i k h
theorem accT_congr {g f : Nat → ByteArray} : ∀ k, (∀ i, i < k → g i = f i) → accT g k = accT f k := by
  intro k h
  have : accL g k = accL f k := by
    induction k with
    | zero => rfl
    | succ k ih => rw [accL, accL, ih fun i hi => h i (by omega), h k (by omega)]
  rw [accT, accT, this]

/-- What a text's digits are told of; a signature, the ends, the public value. -/
def headL (t : ByteArray) : List UInt8 := hashL (tagL 34 [t])
def sigV (s : ByteArray) (n : Nat) (t : ByteArray) (i : Nat) : ByteArray := linksV n i 0 (dig (headL t) i) (secV s n i)
def sigT (s : ByteArray) (n : Nat) (t : ByteArray) : ByteArray := accT (sigV s n t) 18
def endV (s : ByteArray) (n i : Nat) : ByteArray := linksV n i 0 15 (secV s n i)
def pubT (s : ByteArray) (n : Nat) : ByteArray := tagS 35 [accT (endV s n) 18]
def recV (n : Nat) (t q : ByteArray) (i : Nat) : ByteArray := linksV n i (dig (headL t) i) (15 - dig (headL t) i) (q.extract (16 * i) (16 * i + 16))
def recT (n : Nat) (t q : ByteArray) : ByteArray := tagS 35 [accT (recV n t q) 18]
theorem sigV_size (s : ByteArray) (n : Nat) (t : ByteArray) (i : Nat) : (sigV s n t i).size = 16 := linksV_size _ _ _ _ (secV_size _ _ _) _
theorem endV_size (s : ByteArray) (n i : Nat) : (endV s n i).size = 16 := linksV_size _ _ _ _ (secV_size _ _ _) _
theorem sigT_size (s : ByteArray) (n : Nat) (t : ByteArray) : (sigT s n t).size = 288 := accT_size _ (sigV_size s n t) 18
theorem pubT_size (s : ByteArray) (n : Nat) : (pubT s n).size = 32 := tagS_size _ _
theorem cut_size (q : ByteArray) (i : Nat) (hq : q.size = 288) (hi : i < 18) : (q.extract (16 * i) (16 * i + 16)).size = 16 := by
  rw [ByteArray.size_extract, hq]; omega
theorem sig_cut (s : ByteArray) (n : Nat) (t : ByteArray) (i : Nat) (hi : i < 18) : (sigT s n t).extract (16 * i) (16 * i + 16) = sigV s n t i := accT_cut _ (sigV_size s n t) i 18 hi
/-- What was signed brings back the public value. -/
theorem rec_sig (s : ByteArray) (n : Nat) (t : ByteArray) : recT n t (sigT s n t) = pubT s n := by
  rw [recT, pubT]
  rw [accT_congr 18 fun i hi => ?_]
  have hd := dig_le (headL t) i
  rw [recV, endV, sig_cut s n t i hi, sigV]
  have := linksV_add n i 0 (dig (headL t) i) (secV s n i) (15 - dig (headL t) i)
  rw [show dig (headL t) i + (15 - dig (headL t) i) = 15 by omega, Nat.zero_add] at this
  exact this.symm
end Go.Proofs.YtdjppgmaokcgiaaGreatDoor
