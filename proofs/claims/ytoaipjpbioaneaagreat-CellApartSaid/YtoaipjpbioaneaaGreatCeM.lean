/- Contents of cells, their bytes, there and back; copies of a region, and headers that the power has torn: on lists. -/
import Derived.Test.YtoaipjpbioaneaaGreatPkF
import Derived.Test.YtoaipjpbioaneaaGreatFlM
namespace Go.Proofs.YtoaipjpbioaneaaGreat
/-! ### Numbers, there and back -/
theorem numL_acc (l : List UInt8) : ∀ a : Nat, l.foldl (fun n (x : UInt8) => n * 256 + x.toNat) a = a * 256 ^ l.length + numL l := by
  induction l with
  | nil => intro a; simp [numL]
  | cons x l ih =>
    intro a
    have h1 := ih (a * 256 + x.toNat)
    have h2 := ih (0 * 256 + x.toNat)
    show (x :: l).foldl _ a = a * 256 ^ (x :: l).length + (x :: l).foldl _ 0
    rw [List.foldl_cons, List.foldl_cons, h1, h2, List.length_cons, Nat.pow_succ, Nat.zero_mul, Nat.zero_add, Nat.add_mul]
    have e : a * 256 * 256 ^ l.length = a * (256 ^ l.length * 256) := by rw [Nat.mul_assoc, Nat.mul_comm 256]
    rw [e]; omega
theorem numL_cons (x : UInt8) (l : List UInt8) : numL (x :: l) = x.toNat * 256 ^ l.length + numL l := by
  have := numL_acc l x.toNat
  rw [numL, List.foldl_cons]
  simpa using this
theorem numL_append (a b : List UInt8) : numL (a ++ b) = numL a * 256 ^ b.length + numL b := by
  rw [numL, List.foldl_append, numL_acc]; rfl
theorem numL_beN (x : Nat) : ∀ k, numL (beN x k) = x % 256 ^ k
  | 0 => by simp [beN, numL, Nat.mod_one]
  | k + 1 => by
    have hp : 2 ^ (8 * k) = 256 ^ k := by rw [Nat.pow_mul]
    rw [beN, numL_cons, beN_length, numL_beN x k, UInt8.toNat_ofNat', hp]
    have h1 : x / 256 ^ k % 256 % 2 ^ 8 = x / 256 ^ k % 256 := Nat.mod_eq_of_lt (by omega)
    rw [h1, Nat.pow_succ, Nat.mod_mul]
    rw [Nat.mul_comm, Nat.add_comm]
theorem numL_zeros (k : Nat) : numL (List.replicate k 0) = 0 := by
  induction k with
  | zero => rfl
  | succ k ih => rw [List.replicate_succ, numL_cons, ih]; simp
theorem numR_back (k n : Nat) (r : List UInt8) (hk : n < 256 ^ k) (hn : n ≤ 9223372036854775807) : numR k (beN n k ++ r) 0 = ((n : Int), r, 0) := by
  have ht : (beN n k ++ r).take k = beN n k := by rw [List.take_append_of_le_length (by rw [beN_length]; exact Nat.le_refl _), List.take_of_length_le (by rw [beN_length]; exact Nat.le_refl _)]
  have hd : (beN n k ++ r).drop k = r := by
    have := List.drop_left (l₁ := beN n k) (l₂ := r)
    rwa [beN_length] at this
  rw [numR, if_neg (by decide), if_neg (by rw [List.length_append, beN_length]; omega), ht, hd, numL_beN, Nat.mod_eq_of_lt hk, if_neg (by omega)]

/-! ### Contents -/
abbrev Bs := List UInt8
abbrev Ct := List (Bs × Bs)
/-- A text's bytes, its length ahead. -/
def txL (s : Bs) : Bs := beN s.length 2 ++ s
theorem txL_length (s : Bs) : (txL s).length = 2 + s.length := by rw [txL, List.length_append, beN_length]
def pairL (p : Bs × Bs) : Bs := txL p.1 ++ txL p.2
def bytesC (c : Ct) : Bs := beN c.length 2 ++ c.flatMap pairL
structure Ct.ok (c : Ct) : Prop where
  n : c.length ≤ 64
  each : ∀ p ∈ c, 1 ≤ p.1.length ∧ p.1.length ≤ 32 ∧ p.2.length ≤ 65535
  rise : c.Pairwise (fun p q => p.1 < q.1)
def putC : Ct → Bs → Bs → Ct
  | [], n, t => [(n, t)]
  | p :: r, n, t => if p.1 < n then p :: putC r n t else if p.1 = n then (n, t) :: r else (n, t) :: p :: r
def getC (c : Ct) (n : Bs) : Option Bs := (c.find? fun p => decide (p.1 = n)).map Prod.snd
def dropC (c : Ct) (n : Bs) : Ct := c.filter fun p => decide (p.1 ≠ n)
theorem Ct.ok_nil : Ct.ok [] := ⟨by simp, by simp, List.Pairwise.nil⟩
theorem lt_irrefl_bs (a : Bs) : ¬ a < a := List.lt_irrefl a
theorem lt_trans_bs {a b c : Bs} (h : a < b) (k : b < c) : a < c := List.lt_trans h k
theorem lt_total_bs {a b : Bs} (h : ¬ a < b) (k : a ≠ b) : b < a := by
  have h1 : b ≤ a := List.not_lt.1 h
  rcases Decidable.em (b < a) with h2 | h2
  · exact h2
  · exact absurd (List.le_antisymm (List.not_lt.1 h2) h1) k
theorem nil_lt_bs {a : Bs} (h : 1 ≤ a.length) : ([] : Bs) < a := by
  cases a with
  | nil => simp at h
  | cons x l => exact List.nil_lt_cons x l
theorem putC_mem {c : Ct} {n t : Bs} {p : Bs × Bs} (h : p ∈ putC c n t) : p = (n, t) ∨ p ∈ c := by
  induction c with
  | nil => simpa [putC] using h
  | cons q r ih =>
    unfold putC at h
    split at h
    · rcases List.mem_cons.1 h with h1 | h1
      · exact .inr (by simp [h1])
      · rcases ih h1 with h2 | h2
        · exact .inl h2
        · exact .inr (by simp [h2])
    · split at h
      · rcases List.mem_cons.1 h with h1 | h1
        · exact .inl h1
        · exact .inr (by simp [h1])
      · rcases List.mem_cons.1 h with h1 | h1
        · exact .inl h1
        · exact .inr h1
theorem putC_rise {c : Ct} {n t : Bs} (h : c.Pairwise (fun p q => p.1 < q.1)) : (putC c n t).Pairwise (fun p q => p.1 < q.1) := by
  induction c with
  | nil => simp [putC]
  | cons q r ih =>
    obtain ⟨h1, h2⟩ := List.pairwise_cons.1 h
    unfold putC
    split
    · next hlt =>
      refine List.pairwise_cons.2 ⟨fun p hp => ?_, ih h2⟩
      rcases putC_mem hp with rfl | hp
      · exact hlt
      · exact h1 p hp
    · next hlt =>
      split
      · next he =>
        exact List.pairwise_cons.2 ⟨fun p hp => by show n < p.1; rw [← he]; exact h1 p hp, h2⟩
      · next he =>
        refine List.pairwise_cons.2 ⟨fun p hp => ?_, h⟩
        have hq := lt_total_bs hlt he
        rcases List.mem_cons.1 hp with rfl | hp
        · exact hq
        · exact lt_trans_bs hq (h1 p hp)
theorem putC_get {c : Ct} (n t m : Bs) (h : c.Pairwise (fun p q => p.1 < q.1)) : getC (putC c n t) m = if m = n then some t else getC c m := by
  induction c with
  | nil =>
    by_cases e : m = n
    · subst e; simp [putC, getC]
    · rw [if_neg e]; simp [putC, getC]; exact fun h => e h.symm
  | cons q r ih =>
    obtain ⟨h1, h2⟩ := List.pairwise_cons.1 h
    have ih := ih h2
    unfold putC
    split
    · next hlt =>
      by_cases e : q.1 = m
      · have hne : m ≠ n := fun e2 => lt_irrefl_bs n (by rw [e, e2] at hlt; exact hlt)
        rw [if_neg hne]; simp [getC, e]
      · have e1 : getC (q :: putC r n t) m = getC (putC r n t) m := by simp [getC, e]
        have e2 : getC (q :: r) m = getC r m := by simp [getC, e]
        rw [e1, e2, ih]
    · split
      · next he =>
        by_cases e : m = n
        · subst e; simp [getC]
        · rw [if_neg e]
          have hqm : ¬ q.1 = m := fun e2 => e (e2 ▸ he)
          have hnm : ¬ n = m := fun e2 => e e2.symm
          simp [getC, hqm, hnm]
      · next hlt he =>
        by_cases e : m = n
        · subst e; simp [getC]
        · rw [if_neg e]
          have hnm : ¬ n = m := fun e2 => e e2.symm
          simp [getC, hnm]
theorem getC_none {c : Ct} {n : Bs} : getC c n = none ↔ ∀ p ∈ c, p.1 ≠ n := by simp [getC]
theorem getC_some_mem {c : Ct} {n t : Bs} (h : getC c n = some t) : (n, t) ∈ c := by
  unfold getC at h
  obtain ⟨p, hp, rfl⟩ := Option.map_eq_some_iff.1 h
  have h1 := List.find?_some hp
  have h2 := List.mem_of_find?_eq_some hp
  have h3 : p.1 = n := by simpa using h1
  rw [← h3]; exact h2
theorem getC_of_mem {c : Ct} (h : c.Pairwise (fun p q => p.1 < q.1)) {p : Bs × Bs} (hp : p ∈ c) : getC c p.1 = some p.2 := by
  induction c with
  | nil => cases hp
  | cons q r ih =>
    obtain ⟨h1, h2⟩ := List.pairwise_cons.1 h
    rcases List.mem_cons.1 hp with rfl | hp
    · simp [getC]
    · have : ¬ q.1 = p.1 := fun e => lt_irrefl_bs p.1 (e ▸ h1 p hp)
      have e2 : getC (q :: r) p.1 = getC r p.1 := by simp [getC, this]
      rw [e2, ih h2 hp]
theorem putC_len {c : Ct} (n t : Bs) (h : c.Pairwise (fun p q => p.1 < q.1)) : (putC c n t).length = if (getC c n).isSome then c.length else c.length + 1 := by
  induction c with
  | nil => simp [putC, getC]
  | cons q r ih =>
    obtain ⟨h1, h2⟩ := List.pairwise_cons.1 h
    have ih := ih h2
    unfold putC
    split
    · next hlt =>
      have e : ¬ q.1 = n := fun e2 => lt_irrefl_bs n (by rw [e2] at hlt; exact hlt)
      have e2 : getC (q :: r) n = getC r n := by simp [getC, e]
      rw [e2, List.length_cons, List.length_cons, ih]
      split <;> rfl
    · next hlt =>
      split
      · next he => simp [getC, he]
      · next he =>
        have hn : getC (q :: r) n = none := getC_none.2 fun p hp e => by
          have hq := lt_total_bs hlt he
          rcases List.mem_cons.1 hp with rfl | hp
          · exact he e
          · exact lt_irrefl_bs n (lt_trans_bs hq (e ▸ h1 p hp))
        rw [hn]; rfl
/-- What Put answers. -/
def putE (c : Ct) (n t : Bs) : Int := if n.length < 1 ∨ 32 < n.length then 1 else if 65535 < t.length then 4 else if getC c n = none ∧ 64 ≤ c.length then 6 else 0
def putM (c : Ct) (n t : Bs) : Ct := if putE c n t = 0 then putC c n t else c
theorem putE_zero {c : Ct} {n t : Bs} (h : putE c n t = 0) : (1 ≤ n.length ∧ n.length ≤ 32) ∧ t.length ≤ 65535 ∧ (getC c n = none → c.length < 64) := by
  unfold putE at h
  split at h
  · cases h
  · split at h
    · cases h
    · split at h
      · cases h
      · next h1 h2 h3 => exact ⟨by omega, by omega, fun h4 => by
          rcases Nat.lt_or_ge c.length 64 with h5 | h5
          · exact h5
          · exact absurd ⟨h4, h5⟩ h3⟩
theorem Ct.ok.put {c : Ct} (h : c.ok) (n t : Bs) : (putM c n t).ok := by
  unfold putM
  split
  · next he =>
    obtain ⟨h1, h2, h3⟩ := putE_zero he
    refine ⟨?_, fun p hp => ?_, putC_rise h.rise⟩
    · rw [putC_len n t h.rise]
      split
      · exact h.n
      · next hs => have := h3 (by simpa using hs); omega
    · rcases putC_mem hp with rfl | hp
      · exact ⟨h1.1, h1.2, h2⟩
      · exact h.each p hp
  · exact h
theorem Ct.ok.drop {c : Ct} (h : c.ok) (n : Bs) : (dropC c n).ok :=
  ⟨Nat.le_trans (List.length_filter_le _ _) h.n, fun p hp => h.each p (List.mem_filter.1 hp).1, h.rise.filter _⟩
theorem putC_last {c : Ct} {n t : Bs} (h : ∀ p ∈ c, p.1 < n) : putC c n t = c ++ [(n, t)] := by
  induction c with
  | nil => rfl
  | cons q r ih => rw [putC, if_pos (h q (by simp)), ih fun p hp => h p (by simp [hp])]; rfl
theorem dropC_len {c : Ct} (n : Bs) : ((dropC c n).length < c.length) ↔ (getC c n).isSome := by
  constructor
  · intro hl
    cases hg : getC c n with
    | some t => rfl
    | none =>
      have : dropC c n = c := List.filter_eq_self.2 fun p hp => by simpa using getC_none.1 hg p hp
      rw [this] at hl; omega
  · intro hs
    obtain ⟨t, ht⟩ := Option.isSome_iff_exists.1 hs
    have hm := getC_some_mem ht
    rcases Nat.lt_or_ge (dropC c n).length c.length with h1 | h1
    · exact h1
    · exfalso
      have := List.filter_eq_self.1 ((List.filter_sublist (p := fun p : Bs × Bs => decide (p.1 ≠ n)) (l := c)).eq_of_length_le h1) _ hm
      simp at this

/-! ### Contents from bytes -/
theorem textR_back (most : Int) (s r : Bs) (hs : s.length ≤ 65535) (hm : (s.length : Int) ≤ most) : textR most (txL s ++ r) 0 = (s, r, 0) := by
  have h2 : numL ((txL s ++ r).take 2) = s.length := by
    rw [txL, List.append_assoc, List.take_append_of_le_length (by rw [beN_length]; omega), List.take_of_length_le (by rw [beN_length]; omega), numL_beN]
    exact Nat.mod_eq_of_lt (by have : (256 : Nat) ^ 2 = 65536 := by decide
                               omega)
  have hl := txL_length s
  have ht : ((txL s ++ r).take (2 + s.length)).drop 2 = s := by
    rw [List.take_append_of_le_length (by omega), List.take_of_length_le (by omega), txL]
    have := List.drop_left (l₁ := beN s.length 2) (l₂ := s)
    rwa [beN_length] at this
  have hd : (txL s ++ r).drop (2 + s.length) = r := by
    have := List.drop_left (l₁ := txL s) (l₂ := r)
    rwa [hl] at this
  rw [textR, if_neg (by decide), if_neg (by rw [List.length_append]; omega), h2, if_neg (by split <;> omega), if_neg (by rw [List.length_append]; omega), ht, hd]
/-- The rest of a content: so many names more, what is left, its error, the last name. -/
def parseL : Nat → Bs → Int → Bs → Ct → Option Ct
  | 0, l, e, _, acc => if endE l e = 0 then some acc else none
  | k + 1, l, e, last, acc =>
    if ¬ last < (textR 32 l e).1 then none
    else parseL k (textR 65535 (textR 32 l e).2.1 (textR 32 l e).2.2).2.1 (textR 65535 (textR 32 l e).2.1 (textR 32 l e).2.2).2.2 (textR 32 l e).1 (acc ++ [((textR 32 l e).1, (textR 65535 (textR 32 l e).2.1 (textR 32 l e).2.2).1)])
def parseC (s : Bs) : Option Ct := if 64 < (numR 2 s 0).1 then none else parseL (numR 2 s 0).1.toNat (numR 2 s 0).2.1 (numR 2 s 0).2.2 [] []
theorem parseL_back : ∀ (c acc : Ct) (last : Bs), (∀ p ∈ c, 1 ≤ p.1.length ∧ p.1.length ≤ 32 ∧ p.2.length ≤ 65535) → c.Pairwise (fun p q => p.1 < q.1) → (∀ p ∈ c, last < p.1) →
    parseL c.length (c.flatMap pairL) 0 last acc = some (acc ++ c)
  | [], acc, last, _, _, _ => by simp [parseL, endE]
  | p :: r, acc, last, he, hr, hl => by
    obtain ⟨h1, h2⟩ := List.pairwise_cons.1 hr
    have hp := he p (by simp)
    have e1 : textR 32 ((p :: r).flatMap pairL) 0 = (p.1, txL p.2 ++ r.flatMap pairL, 0) := by
      rw [List.flatMap_cons, pairL, List.append_assoc]
      exact textR_back 32 p.1 _ (by omega) (by omega)
    have e2 : textR 65535 (txL p.2 ++ r.flatMap pairL) 0 = (p.2, r.flatMap pairL, 0) := textR_back 65535 p.2 _ hp.2.2 (by omega)
    rw [List.length_cons, parseL, e1, if_neg (by simpa using hl p (by simp))]
    simp only [e2]
    rw [parseL_back r _ p.1 (fun q hq => he q (by simp [hq])) h2 h1]
    simp
theorem parseC_back {c : Ct} (h : c.ok) : parseC (bytesC c) = some c := by
  have hn := h.n
  have e1 : numR 2 (bytesC c) 0 = ((c.length : Int), c.flatMap pairL, 0) := numR_back 2 c.length _ (by have : (256 : Nat) ^ 2 = 65536 := by decide
                                                                                                       omega) (by omega)
  unfold parseC
  rw [e1, if_neg (by simp; omega)]
  simp only [Int.toNat_natCast]
  rw [parseL_back c [] [] h.each h.rise (fun p hp => nil_lt_bs (h.each p hp).1)]
  rfl
theorem bytesC_le {c : Ct} (h : c.ok) : 2 ≤ (bytesC c).length ∧ (bytesC c).length ≤ 4200000 := by
  have : ∀ c : Ct, (∀ p ∈ c, 1 ≤ p.1.length ∧ p.1.length ≤ 32 ∧ p.2.length ≤ 65535) → (c.flatMap pairL).length ≤ c.length * 65600 := by
    intro c
    induction c with
    | nil => simp
    | cons p r ih =>
      intro he
      have hp := he p (by simp)
      have := ih fun q hq => he q (by simp [hq])
      rw [List.flatMap_cons, List.length_append, pairL, List.length_append, txL_length, txL_length, List.length_cons]
      omega
  have h1 := this c h.each
  have h2 := h.n
  rw [bytesC, List.length_append, beN_length]
  have h3 : c.length * 65600 ≤ 64 * 65600 := Nat.mul_le_mul_right _ h2
  omega
/-! ### A copy, read -/
/-- The header of a copy with that number, whose content has so many bytes. -/
def hdr (n len : Nat) : Bs := beN n 8 ++ (beN len 4 ++ beN n 8)
theorem hdr_length (n len : Nat) : (hdr n len).length = 20 := by simp [hdr, beN_length]
/-- What a header tells: number, length, the number again. -/
def headR (h : Bs) : Int × Int × Int :=
  ((numR 8 h 0).1, (numR 4 (numR 8 h 0).2.1 (numR 8 h 0).2.2).1, (numR 8 (numR 4 (numR 8 h 0).2.1 (numR 8 h 0).2.2).2.1 (numR 4 (numR 8 h 0).2.1 (numR 8 h 0).2.2).2.2).1)
def headOk (h : Bs) (half : Nat) : Bool := decide (1 ≤ (headR h).1 ∧ (headR h).1 ≠ 9223372036854775807 ∧ (headR h).1 = (headR h).2.2 ∧ (headR h).2.1 ≤ ((half : Int) - 1) * 64)
/-- The bytes of so many sectors from n on. -/
def bodyS (S : List Sec) (n k : Nat) : Bs := ((S.drop n).take k).flatten
/-- The copy of half sectors from n on: number and content, if it is valid. -/
def readM (S : List Sec) (n half : Nat) : Option (Nat × Ct) :=
  if headOk (S.getD n zeroS) half then (parseC ((bodyS S (n + 1) (half - 1)).take (headR (S.getD n zeroS)).2.1.toNat)).map fun c => ((headR (S.getD n zeroS)).1.toNat, c) else none
theorem readM_congr {S S' : List Sec} {n half : Nat} (h : ∀ i, n ≤ i → i < n + half → S'[i]? = S[i]?) (hh : 1 ≤ half) : readM S' n half = readM S n half := by
  have e0 : S'.getD n zeroS = S.getD n zeroS := by
    rw [List.getD_eq_getElem?_getD, List.getD_eq_getElem?_getD, h n (Nat.le_refl _) (by omega)]
  have e1 : (S'.drop (n + 1)).take (half - 1) = (S.drop (n + 1)).take (half - 1) := by
    apply List.ext_getElem?
    intro i
    rw [List.getElem?_take, List.getElem?_take]
    split
    · rw [List.getElem?_drop, List.getElem?_drop]; exact h _ (by omega) (by omega)
    · rfl
  unfold readM bodyS
  rw [e0, e1]
theorem numR_le (k : Nat) (l : Bs) (e : Int) : 0 ≤ (numR k l e).1 ∧ (numR k l e).1 ≤ 9223372036854775807 := by
  unfold numR
  split
  · simp
  · split
    · simp
    · split
      · simp
      · simp; omega
/-- The three numbers of a header of 64 bytes, where the first number is one. -/
theorem headR_of (h : Bs) (hl : h.length = 64) (h1 : 1 ≤ (headR h).1) (h2 : (headR h).1 = (headR h).2.2) :
    headR h = ((numL (h.take 8) : Int), (numL ((h.drop 8).take 4) : Int), (numL ((h.drop 12).take 8) : Int)) := by
  have a1 : (numR 8 h 0) = ((numL (h.take 8) : Int), h.drop 8, 0) := by
    unfold headR at h1
    unfold numR at h1 ⊢
    rw [if_neg (by decide), if_neg (by omega)] at h1 ⊢
    split
    · next hg => rw [if_pos hg] at h1; simp at h1
    · rfl
  have a2 : numR 4 (h.drop 8) 0 = ((numL ((h.drop 8).take 4) : Int), h.drop 12, 0) := by
    have hb := numL_lt 4 ((h.drop 8).take 4) (by rw [List.length_take, List.length_drop]; omega)
    have : (256 : Nat) ^ 4 = 4294967296 := by decide
    unfold numR
    rw [if_neg (by decide), if_neg (by rw [List.length_drop]; omega), if_neg (by omega), List.drop_drop]
  have a3 : (numR 8 (h.drop 12) 0).1 = (numL ((h.drop 12).take 8) : Int) := by
    unfold headR at h2 h1
    simp only [a1, a2] at h2 h1
    unfold numR at h2 ⊢
    rw [if_neg (by decide), if_neg (by rw [List.length_drop]; omega)] at h2 ⊢
    split
    · next hg => rw [if_pos hg] at h2; simp at h2; omega
    · rfl
  unfold headR
  simp only [a1, a2, a3]

/-! ### Headers that the power has torn -/
/-- The bytes from j to k of a header, bytes 0 else. -/
def window (j k : Nat) (h : Bs) : Sec := (List.replicate 64 (0 : UInt8)).zipIdx.map fun p => if j ≤ p.2 ∧ p.2 < k then h.getD p.2 0 else 0
theorem window_get (j k : Nat) (h : Bs) (i : Nat) : (window j k h)[i]? = if i < 64 then some (if j ≤ i ∧ i < k then h.getD i 0 else 0) else none := by
  unfold window
  rw [List.getElem?_map, List.getElem?_zipIdx, List.getElem?_replicate]
  split <;> simp
theorem window_length (j k : Nat) (h : Bs) : (window j k h).length = 64 := by simp [window]
/-- A sector that holds a part of a header. -/
def Part (s : Sec) : Prop := ∃ n len j k, n < 256 ^ 8 ∧ len < 256 ^ 4 ∧ s = window j k (hdr n len)
theorem Part.len {s : Sec} (h : Part s) : s.length = 64 := by obtain ⟨n, len, j, k, _, _, rfl⟩ := h; exact window_length _ _ _
theorem zeroS_get (i : Nat) : zeroS[i]? = if i < 64 then some 0 else none := by unfold zeroS; exact List.getElem?_replicate
theorem Part.zero : Part zeroS := ⟨0, 0, 0, 0, by decide, by decide, by
  apply List.ext_getElem?
  intro i
  rw [window_get, zeroS_get]
  simp⟩
theorem pad_get (t : Bs) (h : t.length ≤ 64) (i : Nat) : (padS t)[i]? = if i < 64 then some (t.getD i 0) else none := by
  unfold padS
  rw [List.getElem?_append]
  split
  · next hi => rw [if_pos (by omega), List.getD_eq_getElem?_getD, List.getElem?_eq_getElem hi]; rfl
  · next hi =>
    rw [List.getElem?_replicate]
    have : t.getD i 0 = 0 := by rw [List.getD_eq_getElem?_getD, List.getElem?_eq_none (by omega)]; rfl
    rw [this]
    split
    · rw [if_pos (by omega)]
    · rw [if_neg (by omega)]
theorem pad_hdr (n len : Nat) : padS (hdr n len) = window 0 64 (hdr n len) := by
  apply List.ext_getElem?
  intro i
  rw [pad_get _ (by rw [hdr_length]; omega), window_get]
  split
  · rw [if_pos (by omega)]
  · rfl
theorem tear_get (k : Nat) (new old : Sec) (hn : new.length = 64) (ho : old.length = 64) (i : Nat) : (tear k new old)[i]? = if i < k then new[i]? else old[i]? := by
  unfold tear
  rw [List.getElem?_append, List.length_take, hn]
  by_cases h1 : i < k
  · rw [if_pos h1]
    by_cases h2 : i < 64
    · rw [if_pos (by omega), List.getElem?_take, if_pos h1]
    · rw [if_neg (by omega), List.getElem?_drop, List.getElem?_eq_none (by omega), List.getElem?_eq_none (by omega)]
  · rw [if_neg h1, if_neg (by omega), List.getElem?_drop]
    by_cases h2 : k ≤ 64
    · rw [Nat.min_eq_left h2, show k + (i - k) = i by omega]
    · rw [List.getElem?_eq_none (by omega), List.getElem?_eq_none (by omega)]
theorem tear_zero_window (k j m : Nat) (h : Bs) : tear k zeroS (window j m h) = window (max j k) m h := by
  apply List.ext_getElem?
  intro i
  rw [tear_get _ _ _ zeroS_length (window_length _ _ _), zeroS_get, window_get, window_get]
  by_cases h1 : i < k
  · rw [if_pos h1]
    split
    · rw [if_neg (by omega)]
    · rfl
  · rw [if_neg h1]
    split
    · by_cases h3 : j ≤ i ∧ i < m
      · rw [if_pos h3, if_pos (by omega)]
      · rw [if_neg h3, if_neg (by omega)]
    · rfl
theorem tear_hdr_zero (k n len : Nat) : tear k (padS (hdr n len)) zeroS = window 0 k (hdr n len) := by
  apply List.ext_getElem?
  intro i
  rw [tear_get _ _ _ (padS_length _ (by rw [hdr_length]; omega)) zeroS_length, pad_get _ (by rw [hdr_length]; omega), zeroS_get, window_get]
  by_cases h1 : i < k
  · rw [if_pos h1]
    split
    · rw [if_pos (by omega)]
    · rfl
  · rw [if_neg h1]
    split
    · rw [if_neg (by omega)]
    · rfl
theorem Part.tear {s : Sec} (h : Part s) (k : Nat) : Part (tear k zeroS s) := by
  obtain ⟨n, len, j, m, h1, h2, rfl⟩ := h
  exact ⟨n, len, max j k, m, h1, h2, tear_zero_window _ _ _ _⟩
theorem Part.part (n len k : Nat) (h1 : n < 256 ^ 8) (h2 : len < 256 ^ 4) : Part (Go.Proofs.YtoaipjpbioaneaaGreat.tear k (padS (hdr n len)) zeroS) := ⟨n, len, 0, k, h1, h2, tear_hdr_zero _ _ _⟩

theorem numL_inj : ∀ {a b : List UInt8}, a.length = b.length → numL a = numL b → a = b
  | [], [], _, _ => rfl
  | [], y :: b, hl, _ => by simp at hl
  | x :: a, [], hl, _ => by simp at hl
  | x :: a, y :: b, hl, h => by
    have hl' : a.length = b.length := by simpa using hl
    rw [numL_cons, numL_cons, hl'] at h
    have h1 := numL_lt _ a hl'
    have h2 := numL_lt _ b rfl
    have hp : 0 < 256 ^ b.length := Nat.pos_of_ne_zero (by simp)
    have hxy : x.toNat = y.toNat := by
      rcases Nat.lt_trichotomy x.toNat y.toNat with h3 | h3 | h3
      · have := Nat.mul_le_mul_right (256 ^ b.length) (Nat.succ_le_of_lt h3)
        rw [Nat.succ_mul] at this; omega
      · exact h3
      · have := Nat.mul_le_mul_right (256 ^ b.length) (Nat.succ_le_of_lt h3)
        rw [Nat.succ_mul] at this; omega
    rw [hxy] at h
    rw [UInt8.toNat_inj.1 hxy, numL_inj hl' (by omega)]
theorem numL_pos {l : List UInt8} (h : 1 ≤ numL l) : ∃ i, i < l.length ∧ l.getD i 0 ≠ 0 := by
  rcases Decidable.em (∃ i, i < l.length ∧ l.getD i 0 ≠ 0) with h1 | h1
  · exact h1
  · exfalso
    have : l = List.replicate l.length 0 := by
      apply List.ext_getElem?
      intro i
      rw [List.getElem?_replicate]
      split
      · next hi =>
        have h2 : l.getD i 0 = 0 := by
          rcases Decidable.em (l.getD i 0 = 0) with h3 | h3
          · exact h3
          · exact absurd ⟨i, hi, h3⟩ h1
        rw [List.getD_eq_getElem?_getD, List.getElem?_eq_getElem hi] at h2
        rw [List.getElem?_eq_getElem hi]; simpa using h2
      · next hi => exact List.getElem?_eq_none (by omega)
    rw [this, numL_zeros] at h; omega
theorem hdr_get (n len i : Nat) : (hdr n len).getD i 0 = if i < 8 then (beN n 8).getD i 0 else if i < 12 then (beN len 4).getD (i - 8) 0 else (beN n 8).getD (i - 12) 0 := by
  unfold hdr
  rw [List.getD_eq_getElem?_getD, List.getElem?_append, beN_length]
  split
  · rw [List.getD_eq_getElem?_getD]
  · rw [List.getElem?_append, beN_length]
    split
    · rw [if_pos (by omega), List.getD_eq_getElem?_getD]
    · rw [if_neg (by omega), List.getD_eq_getElem?_getD, show i - 8 - 4 = i - 12 by omega]
theorem window_getD (j k : Nat) (h : Bs) (i : Nat) (hi : i < 64) : (window j k h).getD i 0 = if j ≤ i ∧ i < k then h.getD i 0 else 0 := by
  rw [List.getD_eq_getElem?_getD, window_get, if_pos hi]; rfl
theorem window_first (j k : Nat) (h : Bs) (i : Nat) (hi : i < 8) : ((window j k h).take 8).getD i 0 = if j ≤ i ∧ i < k then h.getD i 0 else 0 := by
  rw [List.getD_eq_getElem?_getD, List.getElem?_take, if_pos hi, ← List.getD_eq_getElem?_getD, window_getD _ _ _ _ (by omega)]
theorem window_last (j k : Nat) (h : Bs) (i : Nat) (hi : i < 8) : (((window j k h).drop 12).take 8).getD i 0 = if j ≤ 12 + i ∧ 12 + i < k then h.getD (12 + i) 0 else 0 := by
  rw [List.getD_eq_getElem?_getD, List.getElem?_take, if_pos hi, List.getElem?_drop, ← List.getD_eq_getElem?_getD, window_getD _ _ _ _ (by omega)]
/-- A part of a header that tells a number is the whole header: what it lacks is 0. -/
theorem window_whole (n len j k half : Nat) (h : headOk (window j k (hdr n len)) half = true) : window j k (hdr n len) = padS (hdr n len) := by
  have h0 : 1 ≤ (headR (window j k (hdr n len))).1 ∧ (headR (window j k (hdr n len))).1 ≠ 9223372036854775807 ∧ (headR (window j k (hdr n len))).1 = (headR (window j k (hdr n len))).2.2 ∧ (headR (window j k (hdr n len))).2.1 ≤ ((half : Int) - 1) * 64 := by
    simpa [headOk] using h
  obtain ⟨h1, _, h3, _⟩ := h0
  have hR := headR_of _ (window_length j k (hdr n len)) h1 h3
  rw [hR] at h1 h3
  simp only at h1 h3
  have hA : ((window j k (hdr n len)).take 8).length = 8 := by rw [List.length_take, window_length]; rfl
  have hC : (((window j k (hdr n len)).drop 12).take 8).length = 8 := by rw [List.length_take, List.length_drop, window_length]; rfl
  have hAC := numL_inj (hA.trans hC.symm) (by omega)
  obtain ⟨i0, hi0, hne⟩ := numL_pos (l := (window j k (hdr n len)).take 8) (by omega)
  rw [hA] at hi0
  have hne2 := hne
  rw [hAC, window_last _ _ _ _ hi0] at hne2
  rw [window_first _ _ _ _ hi0] at hne
  have hj : j ≤ i0 ∧ i0 < k := by
    rcases Decidable.em (j ≤ i0 ∧ i0 < k) with hh | hh
    · exact hh
    · rw [if_neg hh] at hne; exact absurd rfl hne
  have hk : 12 + i0 < k := by
    rcases Decidable.em (j ≤ 12 + i0 ∧ 12 + i0 < k) with hh | hh
    · exact hh.2
    · rw [if_neg hh] at hne2; exact absurd rfl hne2
  have each : ∀ i, i < 8 → (if j ≤ i ∧ i < k then (hdr n len).getD i 0 else 0) = if j ≤ 12 + i ∧ 12 + i < k then (hdr n len).getD (12 + i) 0 else 0 := fun i hi => by
    rw [← window_first _ _ _ _ hi, ← window_last _ _ _ _ hi, hAC]
  have twin : ∀ i, i < 8 → (hdr n len).getD (12 + i) 0 = (hdr n len).getD i 0 := fun i hi => by
    rw [hdr_get, hdr_get, if_neg (by omega), if_neg (by omega), if_pos hi, show 12 + i - 12 = i by omega]
  apply List.ext_getElem?
  intro i
  rw [window_get, pad_get _ (by rw [hdr_length]; omega)]
  by_cases hi : i < 64
  · rw [if_pos hi, if_pos hi]
    congr 1
    by_cases hw : j ≤ i ∧ i < k
    · rw [if_pos hw]
    · rw [if_neg hw]
      by_cases hlow : i < j
      · have := each i (by omega)
        rw [if_neg (by omega), if_pos (by omega), twin i (by omega)] at this
        exact this
      · by_cases h20 : i < 20
        · have := each (i - 12) (by omega)
          rw [if_pos (by omega), if_neg (by omega)] at this
          rw [← twin (i - 12) (by omega), show 12 + (i - 12) = i by omega] at this
          exact this.symm
        · rw [List.getD_eq_getElem?_getD, List.getElem?_eq_none (by rw [hdr_length]; omega)]; rfl
  · rw [if_neg hi, if_neg hi]
theorem pad_take (t : Bs) (m : Nat) (hm : m ≤ t.length) : (padS t).take m = t.take m := by
  unfold padS; rw [List.take_append_of_le_length hm]
theorem headR_hdr (n len : Nat) (hn : n ≤ 9223372036854775807) (hl : len < 256 ^ 4) : headR (padS (hdr n len)) = ((n : Int), (len : Int), (n : Int)) := by
  have p8 : (256 : Nat) ^ 8 = 18446744073709551616 := by decide
  have p4 : (256 : Nat) ^ 4 = 4294967296 := by decide
  have e : padS (hdr n len) = beN n 8 ++ (beN len 4 ++ (beN n 8 ++ List.replicate (64 - (hdr n len).length) 0)) := by
    unfold padS hdr; simp only [List.append_assoc]
  rw [e]
  unfold headR
  rw [numR_back 8 n _ (by omega) hn]
  simp only
  rw [numR_back 4 len _ hl (by omega)]
  simp only
  rw [numR_back 8 n _ (by omega) hn]
theorem headR_zero : headR zeroS = (0, 0, 0) := by decide +kernel
theorem headOk_zero (half : Nat) : headOk zeroS half = false := by
  unfold headOk; rw [headR_zero]; simp
theorem readM_zero {S : List Sec} {n half : Nat} (h : S.getD n zeroS = zeroS) : readM S n half = none := by
  unfold readM; rw [h, if_neg (by rw [headOk_zero]; simp)]
/-- A copy with a torn header is none, or has the whole one. -/
theorem readM_part {S : List Sec} {n half m len j k : Nat} (h : S.getD n zeroS = window j k (hdr m len)) (x : Nat × Ct) (hr : readM S n half = some x) : S.getD n zeroS = padS (hdr m len) := by
  unfold readM at hr
  split at hr
  · next ho => rw [h] at ho; rw [h]; exact window_whole _ _ _ _ _ ho
  · cases hr
end Go.Proofs.YtoaipjpbioaneaaGreat
