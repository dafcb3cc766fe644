/- Peaks of a list, on lists: what an append makes of them, and the root out of them. | Powers of a number: how many, how many at the end; peaks of a list, the highest first, and what an append makes of them. | math/bits.OnesCount64, OnesCount, TrailingZeros64, TrailingZeros; powers and closed of the span; the document's powers. -/
import Derived.Lib.TrailingZeros
import Derived.Shelf.Spec.TrailingZeros
import Derived.Test.YtakmlbnjgkfaiaaDoorTrM
import Derived.Test.YtakmlbnjgkfaiaaDoorTrB
namespace Go.Proofs.YtakmlbnjgkfaiaaDoor
open Go Go.RowKit

/-- The peaks, the lowest first: of a list of n blocks of 2^j leaves each. -/
def rpk (j n : Nat) (l : List ByteArray) : List ByteArray :=
  if _h : n = 0 then [] else
  if n % 2 = 1 then rootL (l.drop ((n - 1) * 2 ^ j)) :: rpk (j + 1) (n / 2) (l.take ((n - 1) * 2 ^ j)) else rpk (j + 1) (n / 2) l
termination_by n
decreasing_by
  · omega
  · omega
theorem rpk_zero (j : Nat) (l : List ByteArray) : rpk j 0 l = [] := by rw [rpk]; rfl
theorem rpk_odd (j n : Nat) (l : List ByteArray) (h : n % 2 = 1) : rpk j n l = rootL (l.drop ((n - 1) * 2 ^ j)) :: rpk (j + 1) (n / 2) (l.take ((n - 1) * 2 ^ j)) := by
  conv => lhs; rw [rpk]
  rw [dif_neg (by omega), if_pos h]
theorem rpk_even (j n : Nat) (l : List ByteArray) (h : n % 2 = 0) : rpk j n l = rpk (j + 1) (n / 2) l := by
  by_cases h0 : n = 0
  · subst h0; rw [rpk_zero, rpk_zero]
  · conv => lhs; rw [rpk]
    rw [dif_neg h0, if_neg (by omega)]
/-- What an append makes of peaks, the lowest first. -/
def push (n : Nat) (P : List ByteArray) (h : ByteArray) : List ByteArray :=
  if n % 2 = 1 then match P with
    | x :: r => push (n / 2) r (nodeH x h)
    | [] => [h]
  else h :: P
termination_by n
decreasing_by omega
theorem push_even (n : Nat) (P : List ByteArray) (h : ByteArray) (hn : n % 2 = 0) : push n P h = h :: P := by rw [push.eq_def, if_neg (by omega)]
theorem push_odd (n : Nat) (x : ByteArray) (r : List ByteArray) (h : ByteArray) (hn : n % 2 = 1) : push n (x :: r) h = push (n / 2) r (nodeH x h) := by
  rw [push.eq_def, if_pos hn]
/-- The root of a whole block out of its halves. -/
theorem root_pair (j : Nat) (a b : List ByteArray) (ha : a.length = 2 ^ j) (hb : b.length = 2 ^ j) : rootL (a ++ b) = nodeH (rootL a) (rootL b) := by
  have hp := Nat.two_pow_pos j
  have hl : (a ++ b).length = 2 * 2 ^ j := by rw [List.length_append]; omega
  rw [rootL_cut _ (by omega), show cutN (a ++ b).length = 2 ^ j by rw [hl]; exact cutN_pow (by omega) (Nat.le_refl _)]
  rw [List.take_left' ha, List.drop_left' ha]
theorem push_rpk : ∀ (n j : Nat) (l b : List ByteArray), l.length = n * 2 ^ j → b.length = 2 ^ j → push n (rpk j n l) (rootL b) = rpk j (n + 1) (l ++ b) := by
  intro n
  induction n using Nat.strongRecOn with
  | ind n ih =>
    intro j l b hl hb
    rcases Nat.mod_two_eq_zero_or_one n with h | h
    · rw [rpk_even j n l h, push_even _ _ _ h, rpk_odd j (n + 1) _ (by omega), Nat.add_sub_cancel, show (n + 1) / 2 = n / 2 by omega, ← hl, List.drop_left, List.take_left]
    · have hp := Nat.two_pow_pos j
      have hn1 : (n - 1) * 2 ^ j + 2 ^ j = n * 2 ^ j := by rw [← Nat.succ_mul]; congr 1; omega
      obtain ⟨l', hl'⟩ : ∃ l', l.take ((n - 1) * 2 ^ j) = l' := ⟨_, rfl⟩
      obtain ⟨b', hb'⟩ : ∃ b', l.drop ((n - 1) * 2 ^ j) = b' := ⟨_, rfl⟩
      have hll : l' ++ b' = l := by rw [← hl', ← hb', List.take_append_drop]
      have hbl : b'.length = 2 ^ j := by rw [← hb', List.length_drop]; omega
      have hll' : l'.length = (n / 2) * 2 ^ (j + 1) := by
        rw [← hl', List.length_take, Nat.min_eq_left (by omega), Nat.pow_succ, show n - 1 = n / 2 * 2 by omega, Nat.mul_assoc]
        congr 1; omega
      rw [rpk_odd j n l h, hl', hb', push_odd _ _ _ _ h, ← root_pair j b' b hbl hb, ih (n / 2) (by omega) (j + 1) l' (b' ++ b) hll' (by rw [List.length_append, hbl, hb, Nat.pow_succ]; omega),
        rpk_even j (n + 1) _ (by omega), show (n + 1) / 2 = n / 2 + 1 by omega, ← List.append_assoc, hll]
/-- The root out of peaks, the highest first. -/
def foldP : List ByteArray → ByteArray
  | [] => noneH
  | [x] => x
  | x :: y :: r => nodeH x (foldP (y :: r))
theorem foldP_cons (x : ByteArray) (P : List ByteArray) (h : P ≠ []) : foldP (x :: P) = nodeH x (foldP P) := by
  cases P with
  | nil => exact absurd rfl h
  | cons y r => rfl
/-- The highest peak ahead. -/
theorem rpk_high : ∀ (e j n : Nat) (l : List ByteArray), 2 ^ e ≤ n → n < 2 ^ (e + 1) → l.length = n * 2 ^ j →
    rpk j n l = rpk j (n - 2 ^ e) (l.drop (2 ^ (e + j))) ++ [rootL (l.take (2 ^ (e + j)))]
  | 0, j, n, l, h1, h2, hl => by
    obtain rfl : n = 1 := by simp at h1 h2; omega
    rw [rpk_odd j 1 l rfl, Nat.sub_self, Nat.zero_mul, List.drop_zero, List.take_zero, Nat.zero_add, rpk_zero, List.take_of_length_le (by omega)]
    rw [rpk_zero]
    rfl
  | e + 1, j, n, l, h1, h2, hl => by
    have hpe := Nat.two_pow_pos e
    have hpj := Nat.two_pow_pos j
    have he : 2 ^ (e + 1) = 2 * 2 ^ e := by rw [Nat.pow_succ]; omega
    have he2 : 2 ^ (e + 1 + 1) = 4 * 2 ^ e := by rw [Nat.pow_succ, Nat.pow_succ]; omega
    have hej : 2 ^ (e + 1 + j) = 2 ^ (e + (j + 1)) := by congr 1; omega
    have hprod : 2 ^ (e + (j + 1)) = 2 ^ (e + 1) * 2 ^ j := by rw [← hej, Nat.pow_add]
    rw [hej]
    rcases Nat.mod_two_eq_zero_or_one n with h | h
    · rw [rpk_even j n l h, rpk_high e (j + 1) (n / 2) l (by omega) (by omega) (by
        rw [hl, Nat.pow_succ, ← Nat.mul_assoc, Nat.mul_right_comm]; congr 1; omega)]
      rw [rpk_even j (n - 2 ^ (e + 1)) _ (by omega), show (n - 2 ^ (e + 1)) / 2 = n / 2 - 2 ^ e by omega]
    · have hn1 : n = n / 2 * 2 + 1 := by omega
      have hm : 2 ^ (e + 1) ≤ n - 1 := by omega
      have hmul : 2 ^ (e + 1) * 2 ^ j ≤ (n - 1) * 2 ^ j := Nat.mul_le_mul_right _ hm
      have hlen : (n - 1) * 2 ^ j ≤ l.length := by rw [hl]; exact Nat.mul_le_mul_right _ (by omega)
      rw [rpk_odd j n l h, rpk_high e (j + 1) (n / 2) (l.take ((n - 1) * 2 ^ j)) (by omega) (by omega) (by
        rw [List.length_take, Nat.min_eq_left hlen, Nat.pow_succ, show n - 1 = n / 2 * 2 by omega, Nat.mul_assoc]; congr 1; omega)]
      rw [rpk_odd j (n - 2 ^ (e + 1)) _ (by omega), List.drop_drop, show (n - 2 ^ (e + 1)) / 2 = n / 2 - 2 ^ e by omega, List.cons_append, List.take_take, hprod, Nat.min_eq_left hmul]
      have hsub : (n - 2 ^ (e + 1) - 1) * 2 ^ j = (n - 1) * 2 ^ j - 2 ^ (e + 1) * 2 ^ j := by
        rw [← Nat.sub_mul]; congr 1; omega
      rw [hsub, show 2 ^ (e + 1) * 2 ^ j + ((n - 1) * 2 ^ j - 2 ^ (e + 1) * 2 ^ j) = (n - 1) * 2 ^ j by omega, List.drop_take]
/-- The peaks, the highest first, each by the greatest power that still goes in. -/
def fpk : Nat → List ByteArray → List ByteArray
  | 0, _ => []
  | d + 1, l => if 2 ^ d ≤ l.length then rootL (l.take (2 ^ d)) :: fpk d (l.drop (2 ^ d)) else fpk d l
theorem fpk_nil : ∀ d, fpk d [] = []
  | 0 => rfl
  | d + 1 => by have := Nat.two_pow_pos d; rw [fpk, if_neg (by simp)]; exact fpk_nil d
theorem fpk_rpk : ∀ (d : Nat) (l : List ByteArray), l.length < 2 ^ d → fpk d l = (rpk 0 l.length l).reverse
  | 0, l, h => by
    obtain rfl : l = [] := List.length_eq_zero_iff.1 (by simpa using h)
    rw [List.length_nil, rpk_zero]; rfl
  | d + 1, l, h => by
    rw [fpk]
    split
    · rename_i hd
      rw [rpk_high d 0 l.length l hd h (by simp), List.reverse_append, List.reverse_singleton, Nat.add_zero, List.singleton_append]
      congr 1
      rw [fpk_rpk d (l.drop (2 ^ d)) (by rw [List.length_drop]; rw [Nat.pow_succ] at h; omega), List.length_drop]
    · exact fpk_rpk d l (by omega)
/-- The root out of a list's peaks. -/
theorem foldP_root : ∀ (d : Nat) (l : List ByteArray), l.length < 2 ^ d → foldP (fpk d l) = rootL l ∧ (l ≠ [] → fpk d l ≠ [])
  | 0, l, h => by
    obtain rfl : l = [] := List.length_eq_zero_iff.1 (by simpa using h)
    exact ⟨by rw [rootL_nil]; rfl, fun h => absurd rfl h⟩
  | d + 1, l, h => by
    rw [fpk]
    split
    · rename_i hd
      have hp := Nat.two_pow_pos d
      refine ⟨?_, fun _ => by simp⟩
      by_cases he : l.length = 2 ^ d
      · rw [List.drop_eq_nil_of_le (by omega), fpk_nil, List.take_of_length_le (by omega)]; rfl
      · have hdl : l.drop (2 ^ d) ≠ [] := fun h => by
          have := congrArg List.length h
          rw [List.length_drop] at this
          simp at this; omega
        obtain ⟨h1, h2⟩ := foldP_root d (l.drop (2 ^ d)) (by rw [List.length_drop]; rw [Nat.pow_succ] at h; omega)
        have hc : cutN l.length = 2 ^ d := cutN_pow (by omega) (by rw [Nat.pow_succ] at h; omega)
        rw [foldP_cons _ _ (h2 hdl), h1, rootL_cut l (by omega), hc]
    · exact foldP_root d l (by omega)
end Go.Proofs.YtakmlbnjgkfaiaaDoor

namespace Go.Proofs.YtakmlbnjgkfaiaaDoor
open Go Go.RowKit

/-- How many powers of two make up a number. -/
def pcN (n : Nat) : Nat := if n = 0 then 0 else n % 2 + pcN (n / 2)
termination_by n
decreasing_by omega
theorem pcN_zero : pcN 0 = 0 := by rw [pcN]; rfl
theorem pcN_half (n : Nat) : pcN n = n % 2 + pcN (n / 2) := by
  by_cases h : n = 0
  · subst h
    exact (show pcN 0 = 0 % 2 + pcN 0 by omega)
  · conv => lhs; rw [pcN]
    rw [if_neg h]
/-- How many of the least powers stand without a gap. -/
def t1 (n : Nat) : Nat := if n % 2 = 1 then 1 + t1 (n / 2) else 0
termination_by n
decreasing_by omega
theorem t1_odd (n : Nat) (h : n % 2 = 1) : t1 n = 1 + t1 (n / 2) := by rw [t1.eq_def, if_pos h]
theorem t1_even (n : Nat) (h : n % 2 = 0) : t1 n = 0 := by rw [t1.eq_def, if_neg (by omega)]
theorem pcN_succ : ∀ n, pcN (n + 1) + t1 n = pcN n + 1 := by
  intro n
  induction n using Nat.strongRecOn with
  | ind n ih =>
    rw [pcN_half (n + 1), pcN_half n]
    rcases Nat.mod_two_eq_zero_or_one n with h | h
    · rw [t1_even n h, show (n + 1) / 2 = n / 2 by omega]; omega
    · have := ih (n / 2) (by omega)
      rw [t1_odd n h, show (n + 1) / 2 = n / 2 + 1 by omega]; omega
theorem t1_le : ∀ n, t1 n ≤ pcN n := by
  intro n
  induction n using Nat.strongRecOn with
  | ind n ih =>
    rw [pcN_half n]
    rcases Nat.mod_two_eq_zero_or_one n with h | h
    · rw [t1_even n h]; omega
    · have := ih (n / 2) (by omega)
      rw [t1_odd n h]; omega
theorem pcN_le : ∀ (k n : Nat), n < 2 ^ k → pcN n ≤ k
  | 0, n, h => by obtain rfl : n = 0 := by simpa using h
                  rw [pcN_zero]; omega
  | k + 1, n, h => by
    have := pcN_le k (n / 2) (by rw [Nat.pow_succ] at h; omega)
    rw [pcN_half n]; omega
theorem pcN_pos (n : Nat) (h : 0 < n) : 0 < pcN n := by
  induction n using Nat.strongRecOn with
  | ind n ih =>
    rw [pcN_half n]
    rcases Nat.mod_two_eq_zero_or_one n with h1 | h1
    · have := ih (n / 2) (by omega) (by omega); omega
    · omega
theorem pcN_nil {n : Nat} (h : pcN n = 0) : n = 0 := by
  rcases Nat.eq_zero_or_pos n with h1 | h1
  · exact h1
  · have := pcN_pos n h1; omega
theorem pcN_cat (k : Nat) : ∀ (y b : Nat), b < 2 ^ k → pcN (2 ^ k * y + b) = pcN y + pcN b := by
  induction k with
  | zero => intro y b h; obtain rfl : b = 0 := by simpa using h
            simp [pcN_zero]
  | succ k ih =>
    intro y b h
    have hp : 2 ^ (k + 1) = 2 * 2 ^ k := by rw [Nat.pow_succ]; omega
    have e : 2 ^ (k + 1) * y = 2 * (2 ^ k * y) := by rw [hp, Nat.mul_assoc]
    rw [pcN_half (2 ^ (k + 1) * y + b), pcN_half b, show (2 ^ (k + 1) * y + b) / 2 = 2 ^ k * y + b / 2 by rw [e]; omega, ih y (b / 2) (by rw [hp] at h; omega), show (2 ^ (k + 1) * y + b) % 2 = b % 2 by rw [e]; omega]
    omega
def pcF : Nat → Nat → Nat
  | 0, _ => 0
  | f + 1, n => n % 2 + pcF f (n / 2)
theorem pcN_F : ∀ (f n : Nat), n < 2 ^ f → pcN n = pcF f n
  | 0, n, h => by obtain rfl : n = 0 := by simpa using h
                  rw [pcN_zero]; rfl
  | f + 1, n, h => by
    rw [pcN_half n, pcN_F f (n / 2) (by rw [Nat.pow_succ] at h; omega), pcF]
/-- The zeros at the end of the number's complement. -/
theorem ctz_t1 : ∀ (f n : Nat), n < 2 ^ f - 1 → Lib.ctzFrom f (2 ^ f - 1 - n) = t1 n
  | 0, n, h => by simp at h
  | f + 1, n, h => by
    have hp : 2 ^ (f + 1) = 2 * 2 ^ f := by rw [Nat.pow_succ]; omega
    rw [Lib.ctzFrom]
    rcases Nat.mod_two_eq_zero_or_one n with h1 | h1
    · rw [if_pos (by omega), t1_even n h1]
    · rw [if_neg (by omega), t1_odd n h1, show (2 ^ (f + 1) - 1 - n) / 2 = 2 ^ f - 1 - n / 2 by omega, ctz_t1 f (n / 2) (by omega)]
theorem ctz64_t1 (n : Nat) (h : n < 18446744073709551615) : Lib.ctz 64 (18446744073709551615 - n) = t1 n := by
  have := ctz_t1 64 n (by omega)
  rw [Lib.ctz, if_neg (by omega)]
  exact this

/-- The node over each of these and what the others and the last make. -/
def jn (P : List ByteArray) (h : ByteArray) : ByteArray := P.foldr nodeH h
theorem jn_snoc (P : List ByteArray) (x h : ByteArray) : jn (P ++ [x]) h = jn P (nodeH x h) := by simp [jn]
theorem foldP_jn : ∀ (P : List ByteArray) (h : ByteArray), foldP (P ++ [h]) = jn P h
  | [], h => rfl
  | x :: P, h => by
    rw [List.cons_append, foldP_cons x (P ++ [h]) (by simp), foldP_jn P h]; rfl
theorem foldP_last (P : List ByteArray) (n : Nat) (h : P.length = n + 1) : foldP P = jn (P.take n) (P.getD n ByteArray.empty) := by
  rw [← foldP_jn]
  congr 1
  have hl : n < P.length := by omega
  conv => lhs; rw [← List.take_length (l := P), h, List.take_succ_eq_append_getElem hl]
  simp [List.getD, hl]
/-- What an append makes of peaks, the highest first. -/
def pushH (n : Nat) (P : List ByteArray) (h : ByteArray) : List ByteArray := P.take (P.length - t1 n) ++ [jn (P.drop (P.length - t1 n)) h]
theorem pushH_length (n : Nat) (P : List ByteArray) (h : ByteArray) (hP : P.length = pcN n) : (pushH n P h).length = pcN (n + 1) := by
  have h1 := pcN_succ n
  have h2 := t1_le n
  rw [pushH, List.length_append, List.length_take, List.length_singleton]; omega
theorem push_pushH : ∀ (n : Nat) (P : List ByteArray) (h : ByteArray), t1 n ≤ P.length → push n P.reverse h = (pushH n P h).reverse := by
  intro n
  induction n using Nat.strongRecOn with
  | ind n ih =>
    intro P h ht
    rcases Nat.mod_two_eq_zero_or_one n with h1 | h1
    · rw [push_even _ _ _ h1, pushH, t1_even n h1, Nat.sub_zero, List.take_length, List.drop_length]
      simp [jn]
    · rw [t1_odd n h1] at ht
      have hne : P ≠ [] := fun e => by subst e; simp at ht
      obtain ⟨Q, x, rfl⟩ : ∃ Q x, P = Q ++ [x] := ⟨P.dropLast, P.getLast hne, (List.dropLast_concat_getLast hne).symm⟩
      rw [List.length_append, List.length_singleton] at ht
      have hk : (Q ++ [x]).length - t1 n = Q.length - t1 (n / 2) := by rw [List.length_append, List.length_singleton, t1_odd n h1]; omega
      rw [List.reverse_append, List.reverse_singleton, List.singleton_append, push_odd _ _ _ _ h1, ih (n / 2) (by omega) Q (nodeH x h) (by omega), pushH, pushH, hk,
        List.take_append_of_le_length (by omega), List.drop_append_of_le_length (by omega), jn_snoc]
theorem rpk_length : ∀ (n j : Nat) (l : List ByteArray), (rpk j n l).length = pcN n := by
  intro n
  induction n using Nat.strongRecOn with
  | ind n ih =>
    intro j l
    by_cases h0 : n = 0
    · subst h0; rw [rpk_zero, pcN_zero]; rfl
    · rw [pcN_half n]
      rcases Nat.mod_two_eq_zero_or_one n with h | h
      · rw [rpk_even j n l h, ih (n / 2) (by omega)]; omega
      · rw [rpk_odd j n l h, List.length_cons, ih (n / 2) (by omega)]; omega
/-- A list's peaks, the highest first. -/
def pkL (l : List ByteArray) : List ByteArray := (rpk 0 l.length l).reverse
theorem pkL_length (l : List ByteArray) : (pkL l).length = pcN l.length := by rw [pkL, List.length_reverse, rpk_length]
theorem pkL_nil : pkL [] = [] := by rw [pkL, List.length_nil, rpk_zero]; rfl
theorem fpk_pkL (d : Nat) (l : List ByteArray) (h : l.length < 2 ^ d) : fpk d l = pkL l := fpk_rpk d l h
theorem pkL_snoc (l : List ByteArray) (h : ByteArray) : pushH l.length (pkL l) h = pkL (l ++ [h]) := by
  have h1 := push_rpk l.length 0 l [h] (by simp) rfl
  rw [rootL_one] at h1
  have h2 := push_pushH l.length (pkL l) h (by rw [pkL_length]; exact t1_le _)
  have h3 : pkL (l ++ [h]) = (rpk 0 (l.length + 1) (l ++ [h])).reverse := by rw [pkL, List.length_append, List.length_singleton]
  have h4 : (pkL l).reverse = rpk 0 l.length l := by rw [pkL, List.reverse_reverse]
  rw [h4, h1] at h2
  rw [h3, h2, List.reverse_reverse]
theorem pkL_root (l : List ByteArray) : foldP (pkL l) = rootL l := by
  rw [← fpk_pkL l.length l Nat.lt_two_pow_self]
  exact (foldP_root l.length l Nat.lt_two_pow_self).1
end Go.Proofs.YtakmlbnjgkfaiaaDoor

namespace Go.Proofs.YtakmlbnjgkfaiaaDoor
open Go Go.RowKit

theorem land_cat (y b m c : Nat) (hb : b < 256) (hc : c < 256) : (256 * y + b) &&& (256 * m + c) = 256 * (y &&& m) + (b &&& c) := by
  have hbc : b &&& c < 2 ^ 8 := Nat.and_lt_two_pow _ hc
  refine Nat.eq_of_testBit_eq fun i => ?_
  rw [Nat.testBit_and, show (256 : Nat) = 2 ^ 8 from rfl, Nat.testBit_two_pow_mul_add y hb, Nat.testBit_two_pow_mul_add m hc, Nat.testBit_two_pow_mul_add _ hbc]
  by_cases h : i < 8
  · simp [h]
  · simp [h]
theorem land_low (k y M : Nat) (h : y < 2 ^ k) : y &&& M = y &&& (M % 2 ^ k) := by
  have h1 : y &&& M < 2 ^ k := Nat.lt_of_le_of_lt Nat.and_le_left h
  have h2 := Nat.and_mod_two_pow (a := y) (b := M) (n := k)
  rw [Nat.mod_eq_of_lt h1, Nat.mod_eq_of_lt h] at h2
  exact h2
def sw1 (x : Nat) : Nat := (x / 2 &&& 6148914691236517205) + (x &&& 6148914691236517205)
def sw2 (x : Nat) : Nat := (x / 4 &&& 3689348814741910323) + (x &&& 3689348814741910323)
def sw3 (x : Nat) : Nat := (x / 16 + x) &&& 1085102592571150095
theorem land_step (y b M : Nat) (hy : y < 72057594037927936) (hb : b < 256) (h56 : M % 72057594037927936 = M / 256) : (256 * y + b) &&& M = 256 * (y &&& M) + (b &&& (M % 256)) := by
  have e : M = 256 * (M / 256) + M % 256 := by omega
  conv => lhs; rw [e]
  rw [land_cat y b _ _ hb (by omega), land_low 56 y M hy, show M % 2 ^ 56 = M / 256 from h56]
theorem low1 : ∀ e : Fin 2, ∀ b : Fin 128, (128 * e.val + b.val) &&& 85 = b.val &&& 85 := by decide +kernel
theorem low2 : ∀ e : Fin 4, ∀ b : Fin 64, (64 * e.val + b.val) &&& 51 = b.val &&& 51 := by decide +kernel
theorem low3 : ∀ c : Fin 256, c.val &&& 15 = c.val % 16 := by decide +kernel
theorem sw1_cat (y b : Nat) (hy : y < 72057594037927936) (hb : b < 256) : sw1 (256 * y + b) = 256 * sw1 y + sw1 b := by
  have h1 : (256 * y + b) / 2 = 256 * (y / 2) + (128 * (y % 2) + b / 2) := by omega
  have h2 := low1 ⟨y % 2, by omega⟩ ⟨b / 2, by omega⟩
  simp only at h2
  have h3 := land_low 8 b 6148914691236517205 hb
  have h4 := land_low 8 (b / 2) 6148914691236517205 (by omega)
  rw [sw1, sw1, sw1, h1, land_step _ _ _ hy hb (by decide), land_step (y / 2) _ _ (by omega) (by omega) (by decide), h3, h4,
    show 6148914691236517205 % 256 = 85 from rfl, h2]
  omega
theorem sw2_cat (y b : Nat) (hy : y < 72057594037927936) (hb : b < 256) : sw2 (256 * y + b) = 256 * sw2 y + sw2 b := by
  have h1 : (256 * y + b) / 4 = 256 * (y / 4) + (64 * (y % 4) + b / 4) := by omega
  have h2 := low2 ⟨y % 4, by omega⟩ ⟨b / 4, by omega⟩
  simp only at h2
  have h3 := land_low 8 b 3689348814741910323 hb
  have h4 := land_low 8 (b / 4) 3689348814741910323 (by omega)
  rw [sw2, sw2, sw2, h1, land_step _ _ _ hy hb (by decide), land_step (y / 4) _ _ (by omega) (by omega) (by decide), h3, h4,
    show 3689348814741910323 % 256 = 51 from rfl, h2]
  omega
theorem sw1_lt (y : Nat) (hy : y < 72057594037927936) : sw1 y < 72057594037927936 := by
  rw [sw1, land_low 56 y _ hy, land_low 56 (y / 2) _ (by omega)]
  have h1 : y / 2 &&& 6148914691236517205 % 2 ^ 56 ≤ 6148914691236517205 % 2 ^ 56 := Nat.and_le_right
  have h2 : y &&& 6148914691236517205 % 2 ^ 56 ≤ 6148914691236517205 % 2 ^ 56 := Nat.and_le_right
  have h3 : 6148914691236517205 % 2 ^ 56 = 24019198012642645 := by decide
  omega
theorem sw2_lt (y : Nat) (hy : y < 72057594037927936) : sw2 y ≤ 28823037615171174 ∧ sw2 y % 16 ≤ 6 := by
  constructor
  · rw [sw2, land_low 56 y _ hy, land_low 56 (y / 4) _ (by omega)]
    have h1 : y / 4 &&& 3689348814741910323 % 2 ^ 56 ≤ 3689348814741910323 % 2 ^ 56 := Nat.and_le_right
    have h2 : y &&& 3689348814741910323 % 2 ^ 56 ≤ 3689348814741910323 % 2 ^ 56 := Nat.and_le_right
    have h3 : 3689348814741910323 % 2 ^ 56 = 14411518807585587 := by decide
    omega
  · rw [sw2]
    have h1 := Nat.and_mod_two_pow (a := y / 4) (b := 3689348814741910323) (n := 4)
    have h2 := Nat.and_mod_two_pow (a := y) (b := 3689348814741910323) (n := 4)
    have h3 : (y / 4 % 2 ^ 4) &&& (3689348814741910323 % 2 ^ 4) ≤ 3 := Nat.le_trans Nat.and_le_right (by decide)
    have h4 : (y % 2 ^ 4) &&& (3689348814741910323 % 2 ^ 4) ≤ 3 := Nat.le_trans Nat.and_le_right (by decide)
    omega
theorem sw_small : ∀ b : Fin 256, sw1 b.val < 256 ∧ sw2 b.val ≤ 102 ∧ sw3 (sw2 (sw1 b.val)) = pcF 8 b.val ∧ pcF 8 b.val ≤ 8 := by decide +kernel
theorem sw3_cat (u c : Nat) (hu : u ≤ 28823037615171174) (hu6 : u % 16 ≤ 6) (hc : c ≤ 102) : sw3 (256 * u + c) = 256 * sw3 u + sw3 c := by
  have h1 : (256 * u + c) / 16 + (256 * u + c) = 256 * (u / 16 + u) + (16 * (u % 16) + c / 16 + c) := by omega
  have h2 := low3 ⟨16 * (u % 16) + c / 16 + c, by omega⟩
  have h3 := low3 ⟨c / 16 + c, by omega⟩
  simp only at h2 h3
  have h4 := land_low 8 (c / 16 + c) 1085102592571150095 (by omega)
  have h5 : c / 16 + c &&& 1085102592571150095 = c / 16 + c &&& 15 := h4
  have h6 : (16 * (u % 16) + c / 16 + c) % 16 = (c / 16 + c) % 16 := by omega
  have h7 := land_step (u / 16 + u) (16 * (u % 16) + c / 16 + c) 1085102592571150095 (by omega) (by omega) (by decide)
  rw [show 1085102592571150095 % 256 = 15 from rfl, h2, h6] at h7
  rw [sw3, sw3, sw3, h1, h7, h5, h3]
/-- The three steps together, byte by byte. -/
def sw (x : Nat) : Nat := sw3 (sw2 (sw1 x))
theorem sw_cat (y b : Nat) (hy : y < 72057594037927936) (hb : b < 256) : sw (256 * y + b) = 256 * sw y + pcF 8 b := by
  obtain ⟨h1, h2, h3, h4⟩ := sw_small ⟨b, hb⟩
  obtain ⟨_, k2, _, _⟩ := sw_small ⟨sw1 b, h1⟩
  simp only at h1 h2 h3 h4 k2
  have g1 := sw1_lt y hy
  obtain ⟨g2, g3⟩ := sw2_lt (sw1 y) g1
  rw [sw, sw1_cat y b hy hb, sw2_cat _ _ g1 h1, sw3_cat _ _ g2 g3 k2, h3, sw]
theorem pc_cat (y b : Nat) (hb : b < 256) : pcN (256 * y + b) = pcN y + pcF 8 b := by
  rw [show (256 : Nat) = 2 ^ 8 from rfl, pcN_cat 8 y b hb, pcN_F 8 b hb]
/-- The eight counts, one in each byte. -/
theorem sw_bytes (x : Nat) (hx : x < 18446744073709551616) : ∃ p0 p1 p2 p3 p4 p5 p6 p7 : Nat, p0 ≤ 8 ∧ p1 ≤ 8 ∧ p2 ≤ 8 ∧ p3 ≤ 8 ∧ p4 ≤ 8 ∧ p5 ≤ 8 ∧ p6 ≤ 8 ∧ p7 ≤ 8 ∧
    sw x = 256 * (256 * (256 * (256 * (256 * (256 * (256 * p7 + p6) + p5) + p4) + p3) + p2) + p1) + p0 ∧ pcN x = p7 + p6 + p5 + p4 + p3 + p2 + p1 + p0 := by
  have step : ∀ x, x < 18446744073709551616 → ∃ y b, x = 256 * y + b ∧ y < 72057594037927936 ∧ b < 256 ∧ y = x / 256 := fun x hx => ⟨x / 256, x % 256, by omega, by omega, by omega, rfl⟩
  have q : ∀ b, b < 256 → pcF 8 b ≤ 8 := fun b hb => (sw_small ⟨b, hb⟩).2.2.2
  obtain ⟨x1, b0, e0, l0, c0, d0⟩ := step x hx
  obtain ⟨x2, b1, e1, l1, c1, d1⟩ := step x1 (by omega)
  obtain ⟨x3, b2, e2, l2, c2, d2⟩ := step x2 (by omega)
  obtain ⟨x4, b3, e3, l3, c3, d3⟩ := step x3 (by omega)
  obtain ⟨x5, b4, e4, l4, c4, d4⟩ := step x4 (by omega)
  obtain ⟨x6, b5, e5, l5, c5, d5⟩ := step x5 (by omega)
  obtain ⟨b7, b6, e6, l6, c6, d6⟩ := step x6 (by omega)
  have c7 : b7 < 256 := by omega
  have h7 := (sw_small ⟨b7, c7⟩).2.2.1
  refine ⟨_, _, _, _, _, _, _, _, q b0 c0, q b1 c1, q b2 c2, q b3 c3, q b4 c4, q b5 c5, q b6 c6, q b7 c7, ?_, ?_⟩
  · rw [e0, sw_cat _ _ l0 c0, e1, sw_cat _ _ l1 c1, e2, sw_cat _ _ l2 c2, e3, sw_cat _ _ l3 c3, e4, sw_cat _ _ l4 c4, e5, sw_cat _ _ l5 c5, e6, sw_cat _ _ l6 c6, show sw b7 = pcF 8 b7 from h7]
  · rw [e0, pc_cat _ _ c0, e1, pc_cat _ _ c1, e2, pc_cat _ _ c2, e3, pc_cat _ _ c3, e4, pc_cat _ _ c4, e5, pc_cat _ _ c5, e6, pc_cat _ _ c6, pcN_F 8 b7 c7]
theorem sum_up (p0 p1 p2 p3 p4 p5 p6 p7 c : Nat) (h0 : p0 ≤ 8) (h1 : p1 ≤ 8) (h2 : p2 ≤ 8) (h3 : p3 ≤ 8) (h4 : p4 ≤ 8) (h5 : p5 ≤ 8) (h6 : p6 ≤ 8) (h7 : p7 ≤ 8)
    (hc : c = 256 * (256 * (256 * (256 * (256 * (256 * (256 * p7 + p6) + p5) + p4) + p3) + p2) + p1) + p0) :
    ∃ d e f : Nat, c + c / 256 = d ∧ d + d / 65536 = e ∧ e + e / 4294967296 = f ∧ f < 1152921504606846976 ∧ f % 128 = p7 + p6 + p5 + p4 + p3 + p2 + p1 + p0 := by
  obtain ⟨H1, hH1⟩ : ∃ x, 256 * (256 * p7 + p6) + p5 = x := ⟨_, rfl⟩
  obtain ⟨L1, hL1⟩ : ∃ x, 256 * (256 * p3 + p2) + p1 = x := ⟨_, rfl⟩
  have q1 : H1 ≤ 526344 := by omega
  have q2 : L1 ≤ 526344 := by omega
  have hc2 : c = 4294967296 * (256 * H1 + p4) + (256 * L1 + p0) := by omega
  clear hc
  have a1 : c / 256 = 4294967296 * H1 + (16777216 * p4 + L1) := by omega
  obtain ⟨d, hd⟩ : ∃ d, c + c / 256 = d := ⟨_, rfl⟩
  obtain ⟨D1, hD1⟩ : ∃ x, 257 * H1 + p4 = x := ⟨_, rfl⟩
  obtain ⟨D0, hD0⟩ : ∃ x, 16777216 * p4 + 257 * L1 + p0 = x := ⟨_, rfl⟩
  have a0 : d = 4294967296 * D1 + D0 := by omega
  have b1 : D1 = 65536 * (256 * p7 + (p7 + p6)) + (256 * (p6 + p5) + (p5 + p4)) := by omega
  have b0 : D0 = 65536 * (256 * (p4 + p3) + (p3 + p2)) + (256 * (p2 + p1) + (p1 + p0)) := by omega
  refine ⟨_, _, _, hd, rfl, rfl, ?_⟩
  clear hd a1 hc2 hH1 hL1 q1 q2 hD1 hD0
  obtain ⟨K, hK⟩ : ∃ x, 256 * p7 + (p7 + p6) = x := ⟨_, rfl⟩
  obtain ⟨k, hk⟩ : ∃ x, 256 * (p6 + p5) + (p5 + p4) = x := ⟨_, rfl⟩
  obtain ⟨J, hJ⟩ : ∃ x, 256 * (p4 + p3) + (p3 + p2) = x := ⟨_, rfl⟩
  obtain ⟨j, hj⟩ : ∃ x, 256 * (p2 + p1) + (p1 + p0) = x := ⟨_, rfl⟩
  rw [hK, hk] at b1
  rw [hJ, hj] at b0
  have r1 : K ≤ 2064 := by omega
  have r2 : k ≤ 4112 := by omega
  have r3 : J ≤ 4112 := by omega
  have r4 : j ≤ 4112 := by omega
  have m1 : K % 256 = p7 + p6 := by omega
  have m2 : k % 256 = p5 + p4 := by omega
  have m3 : J % 256 = p3 + p2 := by omega
  have m4 : j % 256 = p1 + p0 := by omega
  clear hK hk hJ hj
  have a2 : d / 65536 = 4294967296 * K + (65536 * k + J) := by omega
  obtain ⟨e, he⟩ : ∃ e, d + d / 65536 = e := ⟨_, rfl⟩
  rw [he]
  have a3 : e = 4294967296 * (65536 * K + k + K) + (65536 * (J + k) + (J + j)) := by omega
  clear he a2 a0 b0 b1
  have a4 : e / 4294967296 = 65536 * K + (k + K) := by omega
  have a5 : e % 65536 = J + j := by omega
  obtain ⟨g, hg⟩ : ∃ g, e / 4294967296 = g := ⟨_, rfl⟩
  rw [hg] at a4 ⊢
  have a6 : e < 1000000000000000000 := by omega
  clear hg a3
  refine ⟨by omega, ?_⟩
  have s1 : (e + g) % 256 = (J + j + (k + K)) % 256 := by clear m1 m2 m3 m4 r1 r2 r3 r4 a6; omega
  clear a4 a5 a6 r1 r2 r3 r4
  obtain ⟨u1, e1⟩ : ∃ x, p7 + p6 = x := ⟨_, rfl⟩
  obtain ⟨u2, e2⟩ : ∃ x, p5 + p4 = x := ⟨_, rfl⟩
  obtain ⟨u3, e3⟩ : ∃ x, p3 + p2 = x := ⟨_, rfl⟩
  obtain ⟨u4, e4⟩ : ∃ x, p1 + p0 = x := ⟨_, rfl⟩
  have v1 : u1 ≤ 16 := by clear e2 e3 e4 m1 m2 m3 m4 s1; omega
  have v2 : u2 ≤ 16 := by clear e1 e3 e4 m1 m2 m3 m4 s1; omega
  have v3 : u3 ≤ 16 := by clear e2 e1 e4 m1 m2 m3 m4 s1; omega
  have v4 : u4 ≤ 16 := by clear e2 e3 e1 m1 m2 m3 m4 s1; omega
  have v5 : p7 + p6 + p5 + p4 + p3 + p2 + p1 + p0 = u1 + u2 + u3 + u4 := by rw [← e1, ← e2, ← e3, ← e4]; simp only [Nat.add_assoc]
  rw [v5]
  rw [e1] at m1
  rw [e2] at m2
  rw [e3] at m3
  rw [e4] at m4
  clear e1 e2 e3 e4 v5 h0 h1 h2 h3 h4 h5 h6 h7
  omega
theorem and64 (a b : Nat) (ha : a < 18446744073709551616) (hb : b < 18446744073709551616) : bits .and .u64 (a : Int) (b : Int) = ((a &&& b : Nat) : Int) := bits_and_u64_nat a b ha hb
theorem and127 : ∀ a : Nat, a < 9223372036854775808 → bits BinOp.and IntKind.i64 (a : Int) 127 = ((a % 128 : Nat) : Int) := by
  intro a ha
  have h2 : a &&& 127 = a % 128 := Nat.and_two_pow_sub_one_eq_mod a 7
  show IntKind.i64.wrap ((BitVec.ofInt 64 (a : Int) &&& BitVec.ofInt 64 (127 : Int)).toNat : Int) = _
  rw [BitVec.toNat_and, BitVec.toNat_ofInt, show (BitVec.ofInt 64 (127 : Int)).toNat = 127 from rfl, show ((a : Int) % (2 ^ 64 : Nat)).toNat = a by omega, h2, IntKind.wrap_i64]
  omega
set_option maxHeartbeats 800000 in
set_option maxRecDepth 100000 in
theorem ones64_any (x : Nat) (hx : x < 18446744073709551616) (w : World) :
    Calls Tryd.prog 82 #[.int .u64 (x : Int)] w fun e w' => e = .returned (.int .i64 (pcN x : Int)) ∧ w = w' := by
  obtain ⟨p0, p1, p2, p3, p4, p5, p6, p7, h0, h1, h2, h3, h4, h5, h6, h7, hs, hp⟩ := sw_bytes x hx
  obtain ⟨d, e, f, hd, he, hf, hlt, hm⟩ := sum_up p0 p1 p2 p3 p4 p5 p6 p7 (sw x) h0 h1 h2 h3 h4 h5 h6 h7 hs
  rw [← hp] at hm
  clear hs hp h0 h1 h2 h3 h4 h5 h6 h7 p0 p1 p2 p3 p4 p5 p6 p7
  obtain ⟨a, ha⟩ : ∃ a, sw1 x = a := ⟨_, rfl⟩
  obtain ⟨b, hb⟩ : ∃ b, sw2 a = b := ⟨_, rfl⟩
  obtain ⟨c, hc⟩ : ∃ c, sw3 b = c := ⟨_, rfl⟩
  have hsw : sw x = c := by rw [sw, ha, hb, hc]
  rw [hsw] at hd
  have la : ∀ y, sw1 y ≤ 12297829382473034410 := fun y => by
    have h1 : y / 2 &&& 6148914691236517205 ≤ 6148914691236517205 := Nat.and_le_right
    have h2 : y &&& 6148914691236517205 ≤ 6148914691236517205 := Nat.and_le_right
    rw [sw1]; omega
  have lb : ∀ y, sw2 y ≤ 7378697629483820646 := fun y => by
    have h1 : y / 4 &&& 3689348814741910323 ≤ 3689348814741910323 := Nat.and_le_right
    have h2 : y &&& 3689348814741910323 ≤ 3689348814741910323 := Nat.and_le_right
    rw [sw2]; omega
  have la1 := la x
  have lb1 := lb a
  rw [ha] at la1
  rw [hb] at lb1
  have e1 : IntKind.u64.wrap (bits BinOp.and IntKind.u64 ((x : Int) / 2) 6148914691236517205 + bits BinOp.and IntKind.u64 (x : Int) 6148914691236517205) = (a : Int) := by
    have g1 := and64 (x / 2) 6148914691236517205 (by omega) (by omega)
    have g2 := and64 x 6148914691236517205 hx (by omega)
    rw [show ((x / 2 : Nat) : Int) = (x : Int) / 2 by omega] at g1
    rw [show (6148914691236517205 : Int) = ((6148914691236517205 : Nat) : Int) from rfl, g1, g2, IntKind.wrap_u64, ← ha, sw1]
    rw [← ha, sw1] at la1
    omega
  have e2 : IntKind.u64.wrap (bits BinOp.and IntKind.u64 ((a : Int) / 4) 3689348814741910323 + bits BinOp.and IntKind.u64 (a : Int) 3689348814741910323) = (b : Int) := by
    have g1 := and64 (a / 4) 3689348814741910323 (by omega) (by omega)
    have g2 := and64 a 3689348814741910323 (by omega) (by omega)
    rw [show ((a / 4 : Nat) : Int) = (a : Int) / 4 by omega] at g1
    rw [show (3689348814741910323 : Int) = ((3689348814741910323 : Nat) : Int) from rfl, g1, g2, IntKind.wrap_u64, ← hb, sw2]
    rw [← hb, sw2] at lb1
    omega
  have e3 : bits BinOp.and IntKind.u64 (IntKind.u64.wrap ((b : Int) / 16 + (b : Int))) 1085102592571150095 = (c : Int) := by
    have g0 : IntKind.u64.wrap ((b : Int) / 16 + (b : Int)) = ((b / 16 + b : Nat) : Int) := by rw [IntKind.wrap_u64]; omega
    have g1 := and64 (b / 16 + b) 1085102592571150095 (by omega) (by omega)
    rw [g0, show (1085102592571150095 : Int) = ((1085102592571150095 : Nat) : Int) from rfl, g1, ← hc, sw3]
  have e4 : IntKind.u64.wrap ((c : Int) + (c : Int) / 256) = (d : Int) := by rw [IntKind.wrap_u64]; omega
  have e5 : IntKind.u64.wrap ((d : Int) + (d : Int) / 65536) = (e : Int) := by rw [IntKind.wrap_u64]; omega
  have e6 : IntKind.u64.wrap ((e : Int) + (e : Int) / 4294967296) = (f : Int) := by rw [IntKind.wrap_u64]; omega
  have e7 : IntKind.i64.wrap (f : Int) = (f : Int) := by rw [IntKind.wrap_i64]; omega
  have e8 := and127 f (by omega)
  rw [hm] at e8
  clear ha hb hc hsw hd he hf hlt hm la lb la1 lb1 hx
  go_enter Tryd.func82, Tryd.ntmps82
  go_wp2_with fail
  go_returns
  exact ⟨rfl, rfl⟩
theorem ones_any (x : Nat) (hx : x < 18446744073709551616) (w : World) :
    Calls Tryd.prog 59 #[.int .u64 (x : Int)] w fun e w' => e = .returned (.int .i64 (pcN x : Int)) ∧ w = w' := by
  have h1 := ones64_any x hx w
  go_enter Tryd.func59, Tryd.ntmps59
  go_wp2_with fail
  refine h1.mono ?_
  rintro e w1 ⟨rfl, rfl⟩
  go_wp2_with fail
  go_returns
  exact ⟨rfl, rfl⟩
theorem powers_any (n : Nat) (hn : n < 9223372036854775808) (w : World) :
    Calls Tryd.prog 35 #[.int .i64 (n : Int)] w fun e w' => e = .returned (.int .i64 (pcN n : Int)) ∧ w = w' := by
  have h1 := ones_any n (by omega) w
  have h2 : IntKind.u64.wrap (n : Int) = (n : Int) := by rw [IntKind.wrap_u64]; omega
  go_enter Tryd.func35, Tryd.ntmps35
  go_wp2_with fail
  refine h1.mono ?_
  rintro e w1 ⟨rfl, rfl⟩
  go_wp2_with fail
  go_returns
  exact ⟨rfl, rfl⟩
/-- The library's table, as its initialiser lays it. -/
def TIs (w : World) : Prop := TabAt 1 Lib.deBruijn64tab w
theorem TIs.lt {w : World} (h : TIs w) : 1 < w.heap.size := block_lt_of_cell (h 0 (by decide))
theorem TIs.below {B : Nat} {w w' : World} (h : TIs w) (hb : Below B w w') (hB : 1 < B) : TIs w' := fun i hi => by
  rw [hb.cell (p := ⟨1, i, none⟩) hB]; exact h i hi
set_option maxHeartbeats 800000 in
set_option maxRecDepth 100000 in
theorem tz64_any (x : Nat) (hx0 : x ≠ 0) (hx : x < 18446744073709551616) (w : World) (hT : TIs w) :
    Calls Tryd.prog 76 #[.int .u64 (x : Int)] w fun e w' => e = .returned (.int .i64 (Lib.ctz 64 x : Int)) ∧ w = w' := by
  obtain ⟨hlow, hk⟩ := Lib.lowest_bit 64 x hx0 hx
  obtain ⟨hi, htab⟩ := Lib.deBruijn64_at _ hk
  have hcell := hT _ hi
  rw [htab] at hcell
  have key := tz64_key x _ hx hx0 hlow
  obtain ⟨idx, hidx⟩ : ∃ i, 2 ^ Lib.ctz 64 x * 285870213051353865 % 18446744073709551616 / 288230376151711744 = i := ⟨_, rfl⟩
  rw [hidx] at key hcell hi
  obtain ⟨k, hkk⟩ : ∃ k, Lib.ctz 64 x = k := ⟨_, rfl⟩
  rw [hkk] at hk hcell ⊢
  have hne : ((x : Int) == 0) = false := by simp; omega
  clear hlow htab hidx hkk hT
  go_enter Tryd.func76, Tryd.ntmps76
  go_wp2_with (simp only [key])
  go_returns
  exact ⟨rfl, rfl⟩
theorem tz_any (x : Nat) (hx0 : x ≠ 0) (hx : x < 18446744073709551616) (w : World) (hT : TIs w) :
    Calls Tryd.prog 54 #[.int .u64 (x : Int)] w fun e w' => e = .returned (.int .i64 (Lib.ctz 64 x : Int)) ∧ w = w' := by
  have h1 := tz64_any x hx0 hx w hT
  go_enter Tryd.func54, Tryd.ntmps54
  go_wp2_with fail
  refine h1.mono ?_
  rintro e w1 ⟨rfl, rfl⟩
  go_wp2_with fail
  go_returns
  exact ⟨rfl, rfl⟩
set_option maxRecDepth 100000 in
theorem closed_any (n : Nat) (hn : n < 9223372036854775808) (w : World) (hT : TIs w) :
    Calls Tryd.prog 30 #[.int .i64 (n : Int)] w fun e w' => e = .returned (.int .i64 (t1 n : Int)) ∧ w = w' := by
  have h1 := tz_any (18446744073709551615 - n) (by omega) (by omega) w hT
  rw [ctz64_t1 n (by omega)] at h1
  have h2 : IntKind.u64.wrap (n : Int) = (n : Int) := by rw [IntKind.wrap_u64]; omega
  obtain ⟨m, hm⟩ : ∃ m, 18446744073709551615 - n = m := ⟨_, rfl⟩
  rw [hm] at h1
  have h3 : bits BinOp.xor IntKind.u64 IntKind.u64.max (n : Int) = (m : Int) := by
    show IntKind.u64.wrap ((BitVec.ofInt 64 (18446744073709551615 : Int) ^^^ BitVec.ofInt 64 (n : Int)).toNat : Int) = _
    have h4 : (BitVec.ofInt 64 (18446744073709551615 : Int) ^^^ BitVec.ofInt 64 (n : Int)) = ~~~ (BitVec.ofInt 64 (n : Int)) := by
      rw [show BitVec.ofInt 64 (18446744073709551615 : Int) = BitVec.allOnes 64 from rfl, BitVec.allOnes_xor]
    rw [h4, BitVec.toNat_not, BitVec.toNat_ofInt, IntKind.wrap_u64]
    omega
  go_enter Tryd.func30, Tryd.ntmps30
  clear hm
  go_wp2_with fail
  refine h1.mono ?_
  rintro e w1 ⟨rfl, rfl⟩
  go_wp2_with fail
  go_returns
  exact ⟨rfl, rfl⟩
end Go.Proofs.YtakmlbnjgkfaiaaDoor
