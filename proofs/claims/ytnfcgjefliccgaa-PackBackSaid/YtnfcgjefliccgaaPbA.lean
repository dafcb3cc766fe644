/- What is laid is read as it was, on lists: each kind of operation; and without its last byte it isn't. -/
import Derived.Test.YtnfcgjefliccgaaPkY
import Derived.Test.YtnfcgjefliccgaaPkF
namespace Go.Proofs.Ytnfcgjefliccgaa
open Go.RowKit

theorem numL_acc (l : List UInt8) : ∀ a : Nat, l.foldl (fun n (x : UInt8) => n * 256 + x.toNat) a = a * 256 ^ l.length + numL l := by
  induction l with
  | nil => intro a; simp [numL]
  | cons x l ih =>
    intro a
    have h1 := ih (a * 256 + x.toNat)
    have h2 := ih (0 * 256 + x.toNat)
    show (x :: l).foldl _ a = a * 256 ^ (x :: l).length + (x :: l).foldl _ 0
    rw [List.foldl_cons, List.foldl_cons, h1, h2, List.length_cons, Nat.pow_succ, Nat.zero_mul, Nat.zero_add, Nat.add_mul]
    have e : a * 256 * 256 ^ l.length = a * (256 ^ l.length * 256) := by rw [Nat.mul_assoc, Nat.mul_comm 256]
    rw [e]; omega
theorem numL_cons (x : UInt8) (l : List UInt8) : numL (x :: l) = x.toNat * 256 ^ l.length + numL l := by
  have := numL_acc l x.toNat
  rw [numL, List.foldl_cons]
  simpa using this
theorem numL_beN (x : Nat) : ∀ k, numL (beN x k) = x % 256 ^ k
  | 0 => by simp [beN, numL, Nat.mod_one]
  | k + 1 => by
    have hp : 2 ^ (8 * k) = 256 ^ k := by rw [Nat.pow_mul]
    rw [beN, numL_cons, beN_length, numL_beN x k, UInt8.toNat_ofNat', hp]
    have h1 : x / 256 ^ k % 256 % 2 ^ 8 = x / 256 ^ k % 256 := Nat.mod_eq_of_lt (by omega)
    rw [h1, Nat.pow_succ, Nat.mod_mul]
    rw [Nat.mul_comm, Nat.add_comm]
theorem num_back (k : Nat) (n : Int) (r : List UInt8) (hn : n ≤ 9223372036854775807) (hf : fits n k = true) : numR k (beN n.toNat k ++ r) 0 = (n, r, 0) := by
  obtain ⟨h0, h1⟩ : 0 ≤ n ∧ n / 2 ^ (8 * k) = 0 := by simpa [fits] using hf
  obtain ⟨m, rfl⟩ : ∃ m : Nat, n = m := ⟨n.toNat, by omega⟩
  have hp : (2 : Nat) ^ (8 * k) = 256 ^ k := by rw [Nat.pow_mul]
  have hm : m < 256 ^ k := by
    have h2 : ((m / 2 ^ (8 * k) : Nat) : Int) = 0 := by rw [Int.natCast_ediv]; simpa using h1
    have h3 : m / 2 ^ (8 * k) = 0 := by omega
    rw [hp] at h3
    rcases Nat.lt_or_ge m (256 ^ k) with h | h
    · exact h
    · have := Nat.div_pos h (Nat.pos_of_ne_zero (by simp)); omega
  have ht : (beN m k ++ r).take k = beN m k := by rw [List.take_append_of_le_length (by rw [beN_length]; exact Nat.le_refl _), List.take_of_length_le (by rw [beN_length]; exact Nat.le_refl _)]
  have hd : (beN m k ++ r).drop k = r := by
    have := List.drop_left (l₁ := beN m k) (l₂ := r)
    rwa [beN_length] at this
  rw [Int.toNat_natCast, numR, if_neg (by decide), if_neg (by rw [List.length_append, beN_length]; omega), ht, hd, numL_beN, Nat.mod_eq_of_lt hm, if_neg (by omega)]
theorem num_short (k : Nat) (l : List UInt8) (h : l.length < k) : numR k l 0 = (0, l, 2) := by simp [numR, h]
theorem text_two (s : ByteArray) (r : List UInt8) (hs : s.size ≤ 65535) : numL ((textL s ++ r).take 2) = s.size := by
  rw [textL, List.append_assoc, List.take_append_of_le_length (by rw [beN_length]; omega), List.take_of_length_le (by rw [beN_length]; omega), numL_beN]
  exact Nat.mod_eq_of_lt (by have : (256 : Nat) ^ 2 = 65536 := by decide
                             omega)
theorem text_len (s : ByteArray) : (textL s).length = 2 + s.size := by rw [textL, List.length_append, beN_length, data_len]
theorem text_back (s : ByteArray) (r : List UInt8) (hs : s.size ≤ 65535) : textR 65535 (textL s ++ r) 0 = (s.data.toList, r, 0) := by
  have h2 := text_two s r hs
  have hl := text_len s
  have ht : ((textL s ++ r).take (2 + s.size)).drop 2 = s.data.toList := by
    rw [List.take_append_of_le_length (by omega), List.take_of_length_le (by omega), textL]
    have := List.drop_left (l₁ := beN s.size 2) (l₂ := s.data.toList)
    rwa [beN_length] at this
  have hd : (textL s ++ r).drop (2 + s.size) = r := by
    have := List.drop_left (l₁ := textL s) (l₂ := r)
    rwa [hl] at this
  rw [textR, if_neg (by decide), if_neg (by rw [List.length_append]; omega), h2, if_neg (by rw [if_neg (by decide)]; omega), if_neg (by rw [List.length_append]; omega), ht, hd]
theorem text_short (s : ByteArray) (l : List UInt8) (x : UInt8) (h : l ++ [x] = textL s) (hs : s.size ≤ 65535) : textR 65535 l 0 = ([], l, 2) := by
  have hl := text_len s
  rw [← h, List.length_append, List.length_singleton] at hl
  rw [textR, if_neg (by decide)]
  by_cases h2 : l.length < 2
  · rw [if_pos h2]
  · have h3 := text_two s [] hs
    rw [List.append_nil, ← h, List.take_append_of_le_length (by omega)] at h3
    rw [if_neg h2, h3, if_neg (by rw [if_neg (by decide)]; omega), if_pos (by omega)]
theorem raw_back (s r : List UInt8) (h : s.length = 32) : rawR 32 (s ++ r) 0 = (s, r, 0) := by
  rw [rawR, if_neg (by decide), if_neg (by decide), if_neg (by rw [List.length_append]; omega)]
  have e1 : (s ++ r).take (32 : Int).toNat = s := by
    rw [show (32 : Int).toNat = s.length by rw [h]; rfl, List.take_left]
  have e2 : (s ++ r).drop (32 : Int).toNat = r := by
    rw [show (32 : Int).toNat = s.length by rw [h]; rfl, List.drop_left]
  rw [e1, e2]
theorem raw_short (l : List UInt8) (h : l.length < 32) : rawR 32 l 0 = ([], l, 2) := by
  rw [rawR, if_neg (by decide), if_neg (by decide), if_pos (by omega)]

/-- An operation. -/
structure OpM where
  k : UInt8
  n : Int
  s : ByteArray
def OpM.ok (o : OpM) : Bool := opOk o.k o.n o.s
def OpM.l (o : OpM) : List UInt8 := opL o.k o.n o.s
def OpM.cells (o : OpM) : List Value := [.int .u8 (o.k.toNat : Int), .int .i64 o.n, .string o.s]
/-- What operations lay. -/
def flatO (os : List OpM) : List UInt8 := os.flatMap OpM.l
theorem flatO_snoc (os : List OpM) (o : OpM) : flatO (os ++ [o]) = flatO os ++ o.l := by simp [flatO]
theorem flatO_drop (os : List OpM) (i : Nat) (h : i < os.length) : flatO (os.drop i) = (os[i]).l ++ flatO (os.drop (i + 1)) := by
  rw [List.drop_eq_getElem_cons h, flatO, List.flatMap_cons]; rfl
/-- Bytes with at most one missing: either the next operation is there whole, or it lacks its last byte and nothing is behind it. -/
theorem next_op (l tl p q : List UInt8) (h : l ++ tl = p ++ q) (ht : tl.length ≤ 1) : (∃ l', l = p ++ l' ∧ l' ++ tl = q) ∨ ∃ x, tl = [x] ∧ l ++ [x] = p ∧ q = [] := by
  rcases Nat.lt_or_ge l.length p.length with hlt | hge
  · right
    have h1 : (l ++ tl).length = (p ++ q).length := by rw [h]
    rw [List.length_append, List.length_append] at h1
    have ht1 : tl.length = 1 := by omega
    have hq : q = [] := List.eq_nil_of_length_eq_zero (by omega)
    obtain ⟨x, rfl⟩ := List.length_eq_one_iff.1 ht1
    refine ⟨x, rfl, ?_, hq⟩
    rw [h, hq, List.append_nil]
  · left
    have h1 : p = l.take p.length := by
      have := congrArg (List.take p.length) h
      rw [List.take_append_of_le_length hge, List.take_left] at this
      exact this.symm
    refine ⟨l.drop p.length, ?_, ?_⟩
    · conv => lhs; rw [← List.take_append_drop p.length l]
      rw [← h1]
    · have := congrArg (List.drop p.length) h
      rw [List.drop_append_of_le_length hge, List.drop_left] at this
      exact this
end Go.Proofs.Ytnfcgjefliccgaa
