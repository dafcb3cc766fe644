/- Keys of many signatures as functions on texts: the tree, what stands beside a leaf, IDs, signatures' bytes, what is verified. No program is named. -/
import Derived.Test.YtdjppgmaokcgiaaGreatDoorOtM
namespace Go.Proofs.YtdjppgmaokcgiaaGreatDoor
open Go.RowKit

/-- The node over two others; the nodes of a height; the ID. -/
def nodeV (a b : ByteArray) : ByteArray := tagS 37 [a, b]
def lvl (s : ByteArray) : Nat → Nat → ByteArray
  | 0, i => pubT s i
  | j + 1, i => nodeV (lvl s j (2 * i)) (lvl s j (2 * i + 1))
def idV (h : Nat) (t : ByteArray) : ByteArray := tagS 38 [by1 h, t]
def topV (s : ByteArray) (h : Nat) : ByteArray := lvl s h 0
def keyID (s : ByteArray) (h : Nat) : ByteArray := idV h (topV s h)
theorem nodeV_size (a b : ByteArray) : (nodeV a b).size = 32 := tagS_size _ _
theorem lvl_size (s : ByteArray) : ∀ j i, (lvl s j i).size = 32
  | 0, i => pubT_size s i
  | _ + 1, _ => nodeV_size _ _
theorem idV_size (h : Nat) (t : ByteArray) : (idV h t).size = 32 := tagS_size _ _

/-- The tree as a row: the place 1 is the top, and below the place i stand those of 2i and 2i + 1. -/
def plc (s : ByteArray) (h p : Nat) : ByteArray := if p = 0 then ⟨#[]⟩ else lvl s (h - p.log2) (p - 2 ^ p.log2)
theorem log2_of {p k : Nat} (h1 : 2 ^ k ≤ p) (h2 : p < 2 ^ (k + 1)) : p.log2 = k := by
  have hp : p ≠ 0 := by have := Nat.two_pow_pos k; omega
  have a1 := Nat.log2_self_le hp
  have a2 := @Nat.lt_log2_self p
  rcases Nat.lt_trichotomy p.log2 k with h | h | h
  · have : 2 ^ (p.log2 + 1) ≤ 2 ^ k := Nat.pow_le_pow_right (by omega) h
    omega
  · exact h
  · have : 2 ^ (k + 1) ≤ 2 ^ p.log2 := Nat.pow_le_pow_right (by omega) h
    omega
theorem plc_at (s : ByteArray) (h j i : Nat) (hj : j ≤ h) (hi : i < 2 ^ (h - j)) : plc s h (2 ^ (h - j) + i) = lvl s j i := by
  have h0 := Nat.two_pow_pos (h - j)
  have hl : (2 ^ (h - j) + i).log2 = h - j := log2_of (by omega) (by rw [Nat.pow_succ]; omega)
  rw [plc, if_neg (by omega), hl, show h - (h - j) = j by omega, Nat.add_sub_cancel_left]
theorem plc_leaf (s : ByteArray) (h n : Nat) (hn : n < 2 ^ h) : plc s h (2 ^ h + n) = pubT s n := plc_at s h 0 n (Nat.zero_le _) hn
theorem plc_top (s : ByteArray) (h : Nat) : plc s h 1 = topV s h := by
  have := plc_at s h h 0 (Nat.le_refl _) (by rw [Nat.sub_self]; omega)
  rwa [Nat.sub_self] at this
theorem plc_node (s : ByteArray) (h i : Nat) (h0 : 0 < i) (hi : i < 2 ^ h) : plc s h i = nodeV (plc s h (2 * i)) (plc s h (2 * i + 1)) := by
  obtain ⟨k, hk⟩ : ∃ k, i.log2 = k := ⟨_, rfl⟩
  have a1 : 2 ^ k ≤ i := by rw [← hk]; exact Nat.log2_self_le (by omega)
  have a2 : i < 2 ^ (k + 1) := by rw [← hk]; exact Nat.lt_log2_self
  have hkh : k < h := by
    rcases Nat.lt_or_ge k h with hh | hh
    · exact hh
    · have : 2 ^ h ≤ 2 ^ k := Nat.pow_le_pow_right (by omega) hh
      omega
  have e1 : (2 * i).log2 = k + 1 := log2_of (by rw [Nat.pow_succ]; omega) (by rw [Nat.pow_succ]; omega)
  have e2 : (2 * i + 1).log2 = k + 1 := log2_of (by rw [Nat.pow_succ]; omega) (by rw [Nat.pow_succ]; omega)
  rw [plc, plc, plc, if_neg (by omega), if_neg (by omega), if_neg (by omega), hk, e1, e2, show h - k = (h - (k + 1)) + 1 by omega, lvl, Nat.pow_succ]
  rw [show 2 * i - 2 ^ k * 2 = 2 * (i - 2 ^ k) by omega, show 2 * i + 1 - 2 ^ k * 2 = 2 * (i - 2 ^ k) + 1 by omega]
theorem plc_size (s : ByteArray) (h p : Nat) (h0 : 0 < p) : (plc s h p).size = 32 := by rw [plc, if_neg (by omega)]; exact lvl_size _ _ _

/-- The neighbour of a place. -/
def nb (x : Nat) : Nat := if x % 2 = 0 then x + 1 else x - 1
/-- What stands beside the leaf n, of each height from 0 on. -/
def besV (s : ByteArray) (n j : Nat) : ByteArray := lvl s j (nb (n / 2 ^ j))
theorem besV_size (s : ByteArray) (n j : Nat) : (besV s n j).size = 32 := lvl_size _ _ _
theorem plc_beside (s : ByteArray) (h n j : Nat) (hn : n < 2 ^ h) (hj : j < h) : plc s h (nb (2 ^ (h - j) + n / 2 ^ j)) = besV s n j := by
  obtain ⟨d, hd⟩ : ∃ d, h - j = d + 1 := ⟨h - j - 1, by omega⟩
  obtain ⟨q, hq⟩ : ∃ q, n / 2 ^ j = q := ⟨_, rfl⟩
  have hql : q < 2 ^ (h - j) := by
    rw [← hq, Nat.div_lt_iff_lt_mul (Nat.two_pow_pos j), ← Nat.pow_add, show h - j + j = h by omega]; exact hn
  have hev : 2 ^ (h - j) % 2 = 0 := by rw [hd, Nat.pow_succ]; omega
  have hnb : nb (2 ^ (h - j) + q) = 2 ^ (h - j) + nb q := by unfold nb; split <;> split <;> omega
  have hnl : nb q < 2 ^ (h - j) := by
    have : 2 ^ (h - j) = 2 ^ d * 2 := by rw [hd, Nat.pow_succ]
    unfold nb; split <;> omega
  rw [hq, hnb, plc_at s h j (nb q) (by omega) hnl, besV, hq]
/-- Texts of 32 bytes one behind the other. -/
theorem accL32 (g : Nat → ByteArray) (hg : ∀ i, (g i).size = 32) : ∀ k, (accL g k).length = 32 * k
  | 0 => rfl
  | k + 1 => by rw [accL, List.length_append, accL32 g hg k, data_len, hg k]; omega
theorem accT32 (g : Nat → ByteArray) (hg : ∀ i, (g i).size = 32) (k : Nat) : (accT g k).size = 32 * k := by
  rw [show (accT g k).size = (accL g k).length from by simp [accT, ByteArray.size], accL32 g hg]
theorem accL_cut32 (g : Nat → ByteArray) (hg : ∀ i, (g i).size = 32) (i : Nat) : ∀ k, i < k → ((accL g k).drop (32 * i)).take 32 = (g i).data.toList
  | 0, h => by omega
  | k + 1, h => by
    have hl := accL32 g hg k
    have hgi : ∀ j, (g j).data.toList.length = 32 := fun j => by rw [data_len, hg j]
    rcases Nat.lt_or_ge i k with h1 | h1
    · rw [accL, List.drop_append_of_le_length (by omega), List.take_append_of_le_length (by rw [List.length_drop]; omega)]
      exact accL_cut32 g hg i k h1
    · obtain rfl : i = k := by omega
      rw [accL, ← hl, List.drop_left, List.take_of_length_le (by rw [hgi]; exact Nat.le_refl _)]
theorem accT_cut32 (g : Nat → ByteArray) (hg : ∀ i, (g i).size = 32) (i k : Nat) (h : i < k) : (accT g k).extract (32 * i) (32 * i + 32) = g i := by
  apply ByteArray.ext
  apply Array.ext'
  rw [ByteArray.data_extract, Array.toList_extract, List.extract_eq_take_drop, show 32 * i + 32 - 32 * i = 32 by omega]
  exact accL_cut32 g hg i k h

/-- What comes out of a leaf and the texts beside. -/
def upV (leaf : ByteArray) (n : Nat) (q : ByteArray) : Nat → ByteArray
  | 0 => leaf
  | j + 1 => if n / 2 ^ j % 2 = 0 then nodeV (upV leaf n q j) (q.extract (32 * j) (32 * j + 32)) else nodeV (q.extract (32 * j) (32 * j + 32)) (upV leaf n q j)
theorem upV_size (leaf : ByteArray) (n : Nat) (q : ByteArray) (hl : leaf.size = 32) : ∀ j, (upV leaf n q j).size = 32
  | 0 => hl
  | _ + 1 => by rw [upV]; split <;> exact nodeV_size _ _
/-- What stands beside a leaf leads from it to the top. -/
theorem up_back (s : ByteArray) (h n : Nat) : ∀ j, j ≤ h → upV (pubT s n) n (accT (besV s n) h) j = lvl s j (n / 2 ^ j)
  | 0, _ => by rw [upV, Nat.pow_zero, Nat.div_one]; rfl
  | j + 1, hj => by
    rw [upV, up_back s h n j (by omega), accT_cut32 (besV s n) (besV_size s n) j h (by omega), lvl]
    have e : n / 2 ^ (j + 1) = n / 2 ^ j / 2 := by rw [Nat.pow_succ, Nat.div_div_eq_div_mul]
    rw [e, besV]
    obtain ⟨q, hq⟩ : ∃ q, n / 2 ^ j = q := ⟨_, rfl⟩
    rw [hq]
    split
    · rename_i h0
      rw [nb, if_pos h0, show 2 * (q / 2) = q by omega]
    · rename_i h0
      rw [nb, if_neg h0, show 2 * (q / 2) = q - 1 by omega, show q - 1 + 1 = q by omega]
theorem up_top (s : ByteArray) (h n : Nat) (hn : n < 2 ^ h) : upV (pubT s n) n (accT (besV s n) h) h = topV s h := by
  rw [up_back s h n h (Nat.le_refl _), Nat.div_eq_of_lt hn]; rfl

/-- A signature's bytes. -/
def headB (h n : Nat) : List UInt8 := [UInt8.ofNat h, UInt8.ofNat (n / 256), UInt8.ofNat n]
def keyS (s : ByteArray) (h n : Nat) (t : ByteArray) : ByteArray := ⟨(headB h n).toArray⟩ ++ sigT s n t ++ accT (besV s n) h
theorem keyS_size (s : ByteArray) (h n : Nat) (t : ByteArray) : (keyS s h n t).size = 291 + 32 * h := by
  rw [keyS, ByteArray.size_append, ByteArray.size_append, sigT_size, accT32 _ (besV_size s n)]
  show 3 + 288 + 32 * h = _
  omega
/-- What a signature's bytes say. -/
def sgH (q : ByteArray) : Nat := (q.data.toList.getD 0 0).toNat
def sgN (q : ByteArray) : Nat := (q.data.toList.getD 1 0).toNat * 256 + (q.data.toList.getD 2 0).toNat
def sgO (q : ByteArray) : ByteArray := q.extract 3 291
def sgB (q : ByteArray) : ByteArray := q.extract 291 q.size
def sgOk (q : ByteArray) : Bool := decide (291 ≤ q.size) && (decide (sgH q ≤ 4) && (decide (q.size = 291 + 32 * sgH q) && decide (sgN q < 2 ^ sgH q)))
theorem sgOk_iff (q : ByteArray) : sgOk q = true ↔ sgH q ≤ 4 ∧ q.size = 291 + 32 * sgH q ∧ sgN q < 2 ^ sgH q := by
  simp only [sgOk, Bool.and_eq_true, decide_eq_true_eq]
  omega
theorem keyS_list (s : ByteArray) (h n : Nat) (t : ByteArray) : (keyS s h n t).data.toList = headB h n ++ (sigT s n t).data.toList ++ (accT (besV s n) h).data.toList := by
  simp [keyS, ByteArray.data_append]
theorem keyS_H (s : ByteArray) (h n : Nat) (t : ByteArray) (hh : h ≤ 4) : sgH (keyS s h n t) = h := by
  rw [sgH, keyS_list]
  simp [headB]; omega
theorem keyS_N (s : ByteArray) (h n : Nat) (t : ByteArray) (hn : n < 65536) : sgN (keyS s h n t) = n := by
  rw [sgN, keyS_list]
  simp [headB]; omega
theorem keyS_O (s : ByteArray) (h n : Nat) (t : ByteArray) : sgO (keyS s h n t) = sigT s n t := by
  apply ByteArray.ext
  apply Array.ext'
  have hl : (sigT s n t).data.toList.length = 288 := by rw [data_len]; exact sigT_size _ _ _
  rw [sgO, ByteArray.data_extract, Array.toList_extract, List.extract_eq_take_drop, keyS_list, List.append_assoc]
  rw [List.drop_append_of_le_length (by simp [headB]), show List.drop 3 (headB h n) = [] from rfl, List.nil_append, show 291 - 3 = 288 by omega, ← hl, List.take_left]
theorem keyS_B (s : ByteArray) (h n : Nat) (t : ByteArray) : sgB (keyS s h n t) = accT (besV s n) h := by
  apply ByteArray.ext
  apply Array.ext'
  have hl : (headB h n ++ (sigT s n t).data.toList).length = 291 := by rw [List.length_append, data_len, sigT_size]; rfl
  rw [sgB, ByteArray.data_extract, Array.toList_extract, List.extract_eq_take_drop, keyS_list]
  rw [← hl, List.drop_left, List.take_of_length_le]
  rw [keyS_size, data_len, accT32 _ (besV_size s n)]
  omega
theorem keyS_ok (s : ByteArray) (h n : Nat) (t : ByteArray) (hh : h ≤ 4) (hn : n < 2 ^ h) : sgOk (keyS s h n t) = true := by
  have h16 : n < 65536 := Nat.lt_of_lt_of_le hn (Nat.le_trans (Nat.pow_le_pow_right (by omega) hh) (by decide))
  rw [sgOk_iff, keyS_H _ _ _ _ hh, keyS_size, keyS_N _ _ _ _ h16]
  exact ⟨hh, rfl, hn⟩
/-- What Verify answers, and Number. -/
def verE (id t q : ByteArray) : Int := if sgOk q then (if idV (sgH q) (upV (recT (sgN q) t (sgO q)) (sgN q) (sgB q) (sgH q)) = id then 0 else 9) else 3
def numE (q : ByteArray) : Nat × Int := if sgOk q then (sgN q, 0) else (0, 3)
/-- What a key has signed is verified under its ID. -/
theorem ver_back (s : ByteArray) (h n : Nat) (t : ByteArray) (hh : h ≤ 4) (hn : n < 2 ^ h) : verE (keyID s h) t (keyS s h n t) = 0 := by
  have h16 : n < 65536 := Nat.lt_of_lt_of_le hn (Nat.le_trans (Nat.pow_le_pow_right (by omega) hh) (by decide))
  rw [verE, if_pos (keyS_ok s h n t hh hn), keyS_H _ _ _ _ hh, keyS_N _ _ _ _ h16, keyS_O, keyS_B, rec_sig, up_top s h n hn]
  exact if_pos rfl
theorem num_back (s : ByteArray) (h n : Nat) (t : ByteArray) (hh : h ≤ 4) (hn : n < 2 ^ h) : numE (keyS s h n t) = (n, 0) := by
  have h16 : n < 65536 := Nat.lt_of_lt_of_le hn (Nat.le_trans (Nat.pow_le_pow_right (by omega) hh) (by decide))
  rw [numE, if_pos (keyS_ok s h n t hh hn), keyS_N _ _ _ _ h16]
end Go.Proofs.YtdjppgmaokcgiaaGreatDoor
