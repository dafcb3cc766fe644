/- meta's documents, on lists: readers with what they read back (codecs), a document, whether it is good, what it lays, how it is read. | meta's documents, on lists: sets, signatures, a document, whether it is good, its bytes, how it is read; sealed bytes. -/
import Derived.Test.YthkfefkcjcgfkaaGreatDoorWmb
import Derived.Test.YthkfefkcjcgfkaaGreatDoorWn2
set_option linter.all false
namespace Go.Proofs.YthkfefkcjcgfkaaGreatDoor.Me
open Go Go.RowKit Go.Proofs.YthkfefkcjcgfkaaGreatDoor Go.Proofs.YthkfefkcjcgfkaaGreatDoor.Nt

/-- A reader: bytes and an error in, what is read, the rest and the error out. -/
abbrev Rd (α : Type) := List UInt8 → Int → α × List UInt8 × Int
/-- A reader reads what `lay` lays, and nothing else. -/
structure Codec {α : Type} (p : Rd α) (lay : α → List UInt8) (ok : α → Prop) : Prop where
  err : ∀ l e, e ≠ 0 → (p l e).2.2 ≠ 0
  told : ∀ l, (p l 0).2.2 = 0 → ok (p l 0).1 ∧ l = lay (p l 0).1 ++ (p l 0).2.1
  back : ∀ a r, ok a → p (lay a ++ r) 0 = (a, r, 0)
def andR {α β : Type} (p : Rd α) (q : α → Rd β) : Rd (α × β) := fun l e => (((p l e).1, (q (p l e).1 (p l e).2.1 (p l e).2.2).1), (q (p l e).1 (p l e).2.1 (p l e).2.2).2)
theorem Codec.both {α β : Type} {p : Rd α} {q : α → Rd β} {lay : α → List UInt8} {ok : α → Prop} {lay2 : α → β → List UInt8} {ok2 : α → β → Prop} (hp : Codec p lay ok) (he : ∀ a l e, e ≠ 0 → (q a l e).2.2 ≠ 0) (hq : ∀ a, ok a → Codec (q a) (lay2 a) (ok2 a)) :
    Codec (andR p q) (fun x => lay x.1 ++ lay2 x.1 x.2) (fun x => ok x.1 ∧ ok2 x.1 x.2) := by
  refine ⟨fun l e h => he _ _ _ (hp.err l e h), fun l h => ?_, fun a r h => ?_⟩
  · have h1 : (p l 0).2.2 = 0 := by
      rcases Decidable.em ((p l 0).2.2 = 0) with h0 | h0
      · exact h0
      · exact absurd h (he _ _ _ h0)
    obtain ⟨k1, k2⟩ := hp.told l h1
    have h' : (q (p l 0).1 (p l 0).2.1 0).2.2 = 0 := by
      have : (q (p l 0).1 (p l 0).2.1 (p l 0).2.2).2.2 = 0 := h
      rwa [h1] at this
    obtain ⟨k3, k4⟩ := (hq _ k1).told _ h'
    unfold andR
    rw [h1]
    exact ⟨⟨k1, k3⟩, by rw [List.append_assoc, ← k4]; exact k2⟩
  · obtain ⟨a, b⟩ := a
    have k1 := hp.back a (lay2 a b ++ r) h.1
    have k2 := (hq a h.1).back b r h.2
    unfold andR
    rw [List.append_assoc, k1]
    dsimp only
    rw [k2]
def seqR {α β : Type} (p : Rd α) (q : Rd β) : Rd (α × β) := fun l e => (((p l e).1, (q (p l e).2.1 (p l e).2.2).1), (q (p l e).2.1 (p l e).2.2).2)
theorem Codec.seq {α β : Type} {p : Rd α} {q : Rd β} {lay : α → List UInt8} {ok : α → Prop} {lay2 : β → List UInt8} {ok2 : β → Prop} (hp : Codec p lay ok) (hq : Codec q lay2 ok2) : Codec (seqR p q) (fun x => lay x.1 ++ lay2 x.2) (fun x => ok x.1 ∧ ok2 x.2) :=
  Codec.both (q := fun _ => q) (lay2 := fun _ => lay2) (ok2 := fun _ => ok2) hp (fun _ => hq.err) fun _ _ => hq
theorem Codec.conv {α β : Type} {p : Rd α} {lay : α → List UInt8} {ok : α → Prop} (h : Codec p lay ok) (f : α → β) (g : β → α) (lay' : β → List UInt8) (ok' : β → Prop) (p' : Rd β) (hp : ∀ l e, p' l e = (f (p l e).1, (p l e).2))
    (hf : ∀ a, ok a → ok' (f a) ∧ lay' (f a) = lay a) (hg : ∀ b, ok' b → ok (g b) ∧ lay (g b) = lay' b ∧ f (g b) = b) : Codec p' lay' ok' := by
  refine ⟨fun l e he => by rw [hp]; exact h.err l e he, fun l he => ?_, fun b r hb => ?_⟩
  · rw [hp] at he ⊢
    obtain ⟨k1, k2⟩ := h.told l he
    exact ⟨(hf _ k1).1, by rw [(hf _ k1).2]; exact k2⟩
  · obtain ⟨k1, k2, k3⟩ := hg b hb
    rw [hp, ← k2, h.back _ r k1]
    exact Prod.ext k3 rfl
def repR {α : Type} (p : Rd α) : Nat → Rd (List α)
  | 0 => fun l e => ([], l, e)
  | k + 1 => fun l e => ((repR p k l e).1 ++ [(p (repR p k l e).2.1 (repR p k l e).2.2).1], (p (repR p k l e).2.1 (repR p k l e).2.2).2)
theorem repR_len {α : Type} (p : Rd α) : ∀ (k : Nat) (l : List UInt8) (e : Int), (repR p k l e).1.length = k
  | 0, _, _ => rfl
  | k + 1, l, e => by
    show ((repR p k l e).1 ++ [_]).length = k + 1
    rw [List.length_append, repR_len p k l e]; rfl
theorem Codec.rep {α : Type} {p : Rd α} {lay : α → List UInt8} {ok : α → Prop} (h : Codec p lay ok) : ∀ k, Codec (repR p k) (fun xs => xs.flatMap lay) (fun xs => xs.length = k ∧ ∀ x ∈ xs, ok x)
  | 0 => ⟨fun _ _ he => he, fun _ _ => ⟨⟨rfl, fun x hx => absurd hx (List.not_mem_nil)⟩, rfl⟩, fun a r ha => by
      obtain rfl := List.eq_nil_of_length_eq_zero ha.1
      rfl⟩
  | k + 1 => by
    have ih := h.rep k
    refine ⟨fun l e he => h.err _ _ (ih.err l e he), fun l he => ?_, fun a r ha => ?_⟩
    · have h1 : (repR p k l 0).2.2 = 0 := by
        rcases Decidable.em ((repR p k l 0).2.2 = 0) with h0 | h0
        · exact h0
        · exact absurd he (h.err _ _ h0)
      obtain ⟨⟨k1, k2⟩, k3⟩ := ih.told l h1
      have he' : (p (repR p k l 0).2.1 0).2.2 = 0 := by
        have : (p (repR p k l 0).2.1 (repR p k l 0).2.2).2.2 = 0 := he
        rwa [h1] at this
      obtain ⟨k4, k5⟩ := h.told _ he'
      show (((repR p k l 0).1 ++ [(p (repR p k l 0).2.1 (repR p k l 0).2.2).1]).length = k + 1 ∧ _) ∧ l = ((repR p k l 0).1 ++ [(p (repR p k l 0).2.1 (repR p k l 0).2.2).1]).flatMap lay ++ (p (repR p k l 0).2.1 (repR p k l 0).2.2).2.1
      rw [h1]
      refine ⟨⟨by rw [List.length_append, k1]; rfl, fun x hx => ?_⟩, ?_⟩
      · rcases List.mem_append.1 hx with hx | hx
        · exact k2 x hx
        · rw [List.mem_singleton.1 hx, h1]; exact k4
      · rw [List.flatMap_append, List.flatMap_singleton, List.append_assoc, ← k5]; exact k3
    · obtain ⟨xs, x, rfl⟩ : ∃ xs x, a = xs ++ [x] := by
        rcases List.eq_nil_or_concat a with rfl | ⟨xs, x, rfl⟩
        · exact absurd ha.1 (by simp)
        · exact ⟨xs, x, by simp⟩
      have hx : xs.length = k := by have := ha.1; simp at this; exact this
      have k1 := ih.back xs (lay x ++ r) ⟨hx, fun y hy => ha.2 y (List.mem_append_left _ hy)⟩
      have k2 := h.back x r (ha.2 x (List.mem_append_right _ (List.mem_singleton.2 rfl)))
      rw [List.flatMap_append, List.flatMap_singleton, List.append_assoc]
      show ((repR p k (xs.flatMap lay ++ (lay x ++ r)) 0).1 ++ [_], _) = _
      rw [k1]
      dsimp only
      rw [k2]
theorem nb_acc (l : List UInt8) : ∀ a : Nat, l.foldl (fun n (x : UInt8) => n * 256 + x.toNat) a = a * 256 ^ l.length + Pk.numL l := by
  induction l with
  | nil => intro a; simp [Pk.numL]
  | cons x l ih =>
    intro a
    have h1 := ih (a * 256 + x.toNat)
    have h2 := ih (0 * 256 + x.toNat)
    show (x :: l).foldl _ a = a * 256 ^ (x :: l).length + (x :: l).foldl _ 0
    rw [List.foldl_cons, List.foldl_cons, h1, h2, List.length_cons, Nat.pow_succ, Nat.zero_mul, Nat.zero_add, Nat.add_mul]
    have e : a * 256 * 256 ^ l.length = a * (256 ^ l.length * 256) := by rw [Nat.mul_assoc, Nat.mul_comm 256]
    rw [e]; omega
theorem nb_cons (x : UInt8) (l : List UInt8) : Pk.numL (x :: l) = x.toNat * 256 ^ l.length + Pk.numL l := by
  have := nb_acc l x.toNat
  rw [Pk.numL, List.foldl_cons]
  simpa using this
theorem nb_beN (x : Nat) : ∀ k, Pk.numL (Pk.beN x k) = x % 256 ^ k
  | 0 => by simp [Pk.beN, Pk.numL, Nat.mod_one]
  | k + 1 => by
    have hp : 2 ^ (8 * k) = 256 ^ k := by rw [Nat.pow_mul]
    rw [Pk.beN, nb_cons, Pk.beN_length, nb_beN x k, UInt8.toNat_ofNat', hp]
    have h1 : x / 256 ^ k % 256 % 2 ^ 8 = x / 256 ^ k % 256 := Nat.mod_eq_of_lt (by omega)
    rw [h1, Nat.pow_succ, Nat.mod_mul]
    rw [Nat.mul_comm, Nat.add_comm]
theorem beN_mod (m : Nat) : ∀ k j, k ≤ j → Pk.beN (m % 256 ^ j) k = Pk.beN m k
  | 0, _, _ => rfl
  | k + 1, j, h => by
    have hp : 2 ^ (8 * k) = 256 ^ k := by rw [Nat.pow_mul]
    rw [Pk.beN, Pk.beN, beN_mod m k j (by omega), hp]
    congr 2
    have hj : 256 ^ j = 256 ^ k * (256 * 256 ^ (j - k - 1)) := by rw [← Nat.pow_succ', ← Nat.pow_add]; congr 1; omega
    rw [hj, Nat.mod_mul_right_div_self, Nat.mod_mul_right_mod]
theorem beN_nb : ∀ (k : Nat) (l : List UInt8), l.length = k → Pk.beN (Pk.numL l) k = l
  | 0, l, h => by obtain rfl := List.eq_nil_of_length_eq_zero h; rfl
  | k + 1, [], h => by cases h
  | k + 1, x :: l, h => by
    have hl : l.length = k := by simpa using h
    have hp : 2 ^ (8 * k) = 256 ^ k := by rw [Nat.pow_mul]
    have hb := Pk.numL_lt k l hl
    have h1 : Pk.numL (x :: l) / 256 ^ k = x.toNat := by
      rw [nb_cons, hl, Nat.mul_comm, Nat.mul_add_div (Nat.pow_pos (by decide)), Nat.div_eq_of_lt hb, Nat.add_zero]
    have h2 : Pk.numL (x :: l) % 256 ^ k = Pk.numL l := by
      rw [nb_cons, hl, Nat.mul_comm, Nat.mul_add_mod, Nat.mod_eq_of_lt hb]
    rw [Pk.beN, hp, h1, ← beN_mod _ k k (Nat.le_refl _), h2, beN_nb k l hl]
    congr 1
    have := x.toNat_lt
    rw [Nat.mod_eq_of_lt (by omega)]
    exact UInt8.ofNat_toNat
theorem fits_iff (n : Int) (k : Nat) : Pk.fits n k = true ↔ 0 ≤ n ∧ n.toNat < 256 ^ k := by
  have hp : (2 : Int) ^ (8 * k) = 256 ^ k := by rw [Int.pow_mul]; rfl
  unfold Pk.fits
  rw [decide_eq_true_iff, hp]
  constructor
  · rintro ⟨h0, h1⟩
    refine ⟨h0, ?_⟩
    obtain ⟨m, rfl⟩ : ∃ m : Nat, n = m := ⟨n.toNat, by omega⟩
    rw [Int.toNat_natCast]
    have h2 : ((m / 256 ^ k : Nat) : Int) = 0 := by rw [Int.natCast_ediv]; simpa using h1
    have h3 : m / 256 ^ k = 0 := by omega
    rcases Nat.lt_or_ge m (256 ^ k) with h | h
    · exact h
    · have := Nat.div_pos h (Nat.pos_of_ne_zero (by simp)); omega
  · rintro ⟨h0, h1⟩
    refine ⟨h0, ?_⟩
    obtain ⟨m, rfl⟩ : ∃ m : Nat, n = m := ⟨n.toNat, by omega⟩
    rw [Int.toNat_natCast] at h1
    have h2 : ((m / 256 ^ k : Nat) : Int) = 0 := by rw [Nat.div_eq_of_lt h1]; rfl
    rw [Int.natCast_ediv] at h2
    simpa using h2
theorem n2 : ¬ ((2 : Int) = 0) := by decide
theorem n3 : ¬ ((3 : Int) = 0) := by decide
theorem n4 : ¬ ((4 : Int) = 0) := by decide
theorem n0 : ¬ ((0 : Int) ≠ 0) := by decide
theorem n32 : ¬ ((32 : Int) < 0) := by decide
theorem numC (k : Nat) : Codec (Pk.numR k) (fun n => Pk.beN n.toNat k) (fun n => Pk.fits n k = true ∧ n ≤ 9223372036854775807) := by
  refine ⟨fun l e he => by rw [Pk.numR, if_pos he]; exact he, fun l he => ?_, fun n r hn => ?_⟩
  · by_cases h1 : l.length < k
    · rw [Pk.numR, if_neg n0, if_pos h1] at he; exact absurd he n2
    by_cases h2 : 9223372036854775807 < Pk.numL (l.take k)
    · rw [Pk.numR, if_neg n0, if_neg h1, if_pos h2] at he; exact absurd he n3
    rw [Pk.numR, if_neg n0, if_neg h1, if_neg h2]
    have hl : (l.take k).length = k := by rw [List.length_take]; omega
    refine ⟨⟨(fits_iff _ _).2 ⟨by omega, by rw [Int.toNat_natCast]; exact Pk.numL_lt k _ hl⟩, by omega⟩, ?_⟩
    show l = Pk.beN (Pk.numL (l.take k) : Int).toNat k ++ l.drop k
    rw [Int.toNat_natCast, beN_nb k _ hl, List.take_append_drop]
  · obtain ⟨h0, h1⟩ := (fits_iff n k).1 hn.1
    have ht : (Pk.beN n.toNat k ++ r).take k = Pk.beN n.toNat k := by rw [List.take_append_of_le_length (by rw [Pk.beN_length]; exact Nat.le_refl _), List.take_of_length_le (by rw [Pk.beN_length]; exact Nat.le_refl _)]
    have hd : (Pk.beN n.toNat k ++ r).drop k = r := by
      have := List.drop_left (l₁ := Pk.beN n.toNat k) (l₂ := r)
      rwa [Pk.beN_length] at this
    have h2 := hn.2
    rw [Pk.numR, if_neg n0, if_neg (by rw [List.length_append, Pk.beN_length]; omega), ht, hd, nb_beN, Nat.mod_eq_of_lt h1, if_neg (by omega)]
    exact Prod.ext (Int.toNat_of_nonneg h0) rfl
/-- Hashes. -/
def hashR : Rd ByteArray := fun l e => (Pk.btx (Pk.rawR 32 l e).1, (Pk.rawR 32 l e).2)
theorem hashC : Codec hashR (fun s => s.data.toList) (fun s => s.size = 32) := by
  refine ⟨fun l e he => by rw [hashR, Pk.rawR, if_pos he]; exact he, fun l he => ?_, fun s r hs => ?_⟩
  · by_cases h1 : (l.length : Int) < 32
    · rw [hashR, Pk.rawR, if_neg n0, if_neg n32, if_pos h1] at he; exact absurd he n2
    rw [hashR, Pk.rawR, if_neg n0, if_neg n32, if_neg h1]
    refine ⟨?_, ?_⟩
    · show (Pk.btx (l.take 32)).size = 32
      rw [Pk.mk_size, List.length_take]; omega
    · show l = (Pk.btx (l.take 32)).data.toList ++ l.drop 32
      rw [Pk.mk_list, List.take_append_drop]
  · have hl : s.data.toList.length = 32 := by rw [data_len]; exact hs
    have ht : (s.data.toList ++ r).take 32 = s.data.toList := by rw [List.take_append_of_le_length (by omega), List.take_of_length_le (by omega)]
    have hd : (s.data.toList ++ r).drop 32 = r := by
      have := List.drop_left (l₁ := s.data.toList) (l₂ := r)
      rwa [hl] at this
    rw [hashR, Pk.rawR, if_neg n0, if_neg n32, if_neg (by rw [List.length_append, hl]; omega)]
    show (Pk.btx ((s.data.toList ++ r).take 32), (s.data.toList ++ r).drop 32, (0 : Int)) = _
    rw [ht, hd, Pk.mk_data]
/-- Texts. -/
def textsR (most : Int) : Rd ByteArray := fun l e => (Pk.btx (Pk.textR most l e).1, (Pk.textR most l e).2)
theorem textC (most : Nat) (hm : most ≤ 65535) : Codec (textsR (most : Int)) Pk.textL (fun s => s.size ≤ most) := by
  refine ⟨fun l e he => by rw [textsR, Pk.textR, if_pos he]; exact he, fun l he => ?_, fun s r hs => ?_⟩
  · rw [textsR, Pk.textR, if_neg n0, if_neg (show ¬ (most : Int) < 0 by omega)] at he ⊢
    by_cases h1 : l.length < 2
    · rw [if_pos h1] at he; exact absurd he n2
    rw [if_neg h1] at he ⊢
    by_cases h2 : (most : Int) < (Pk.numL (l.take 2) : Int)
    · rw [if_pos h2] at he; exact absurd he n4
    rw [if_neg h2] at he ⊢
    by_cases h3 : l.length < 2 + Pk.numL (l.take 2)
    · rw [if_pos h3] at he; exact absurd he n2
    rw [if_neg h3]
    have hz : ((l.take (2 + Pk.numL (l.take 2))).drop 2).length = Pk.numL (l.take 2) := by rw [List.length_drop, List.length_take]; omega
    refine ⟨?_, ?_⟩
    · show (Pk.btx _).size ≤ most
      rw [Pk.mk_size, hz]; omega
    · show l = Pk.textL (Pk.btx ((l.take (2 + Pk.numL (l.take 2))).drop 2)) ++ l.drop (2 + Pk.numL (l.take 2))
      rw [Pk.textL, Pk.mk_size, Pk.mk_list, hz, beN_nb 2 _ (by rw [List.length_take]; omega)]
      have e : l.take 2 = (l.take (2 + Pk.numL (l.take 2))).take 2 := by rw [List.take_take, Nat.min_eq_left (by omega)]
      conv => rhs; lhs; lhs; rw [e]
      rw [List.take_append_drop, List.take_append_drop]
  · have h2 : Pk.numL ((Pk.textL s ++ r).take 2) = s.size := by
      rw [Pk.textL, List.append_assoc, List.take_append_of_le_length (by rw [Pk.beN_length]; omega), List.take_of_length_le (by rw [Pk.beN_length]; omega), nb_beN]
      exact Nat.mod_eq_of_lt (by have : (256 : Nat) ^ 2 = 65536 := by decide
                                 omega)
    have hl : (Pk.textL s).length = 2 + s.size := by rw [Pk.textL, List.length_append, Pk.beN_length, data_len]
    have ht : ((Pk.textL s ++ r).take (2 + s.size)).drop 2 = s.data.toList := by
      rw [List.take_append_of_le_length (by omega), List.take_of_length_le (by omega), Pk.textL]
      have := List.drop_left (l₁ := Pk.beN s.size 2) (l₂ := s.data.toList)
      rwa [Pk.beN_length] at this
    have hd : (Pk.textL s ++ r).drop (2 + s.size) = r := by
      have := List.drop_left (l₁ := Pk.textL s) (l₂ := r)
      rwa [hl] at this
    rw [textsR, Pk.textR, if_neg n0, if_neg (by rw [List.length_append]; omega), h2, if_neg (by rw [if_neg (by omega)]; omega), if_neg (by rw [List.length_append]; omega), ht, hd, Pk.mk_data]
end Go.Proofs.YthkfefkcjcgfkaaGreatDoor.Me

namespace Go.Proofs.YthkfefkcjcgfkaaGreatDoor.Me
open Go Go.RowKit Go.Proofs.YthkfefkcjcgfkaaGreatDoor Go.Proofs.YthkfefkcjcgfkaaGreatDoor.Nt

theorem Codec.chk {α : Type} {p : Rd α} {lay : α → List UInt8} {ok : α → Prop} (h : Codec p lay ok) (good : α → Prop) (p' : Rd α) (h1 : ∀ l e, (p' l e).2.2 = 0 → (p l e).2.2 = 0 ∧ good (p l e).1 ∧ p' l e = p l e) (h2 : ∀ l, (p l 0).2.2 = 0 → good (p l 0).1 → p' l 0 = p l 0) : Codec p' lay (fun a => ok a ∧ good a) := by
  refine ⟨fun l e he h0 => h.err l e he (h1 l e h0).1, fun l h0 => ?_, fun a r ha => ?_⟩
  · obtain ⟨k1, k2, k3⟩ := h1 l 0 h0
    rw [k3]
    exact ⟨⟨(h.told l k1).1, k2⟩, (h.told l k1).2⟩
  · have k := h.back a r ha.1
    rw [h2 _ (by rw [k]) (by rw [k]; exact ha.2), k]
/-- A set. -/
abbrev SetM := List ByteArray × Int
def takeP : Rd SetM := fun l e => ((idsT (takeA l e), needT (takeA l e)), (takeA l e).2.2.1, errT (takeA l e))
def laySt (s : SetM) : List UInt8 := Pk.beN s.1.length 1 ++ (s.1.flatMap (fun x => x.data.toList) ++ Pk.beN s.2.toNat 1)
theorem raws_rep : ∀ (k : Nat) (l : List UInt8) (e : Int), rawsR k l e = repR hashR k l e
  | 0, _, _ => rfl
  | k + 1, l, e => by
    rw [rawsR, raws_rep k l e]; rfl
def setR : Rd (Int × List ByteArray × Int) := andR (Pk.numR 1) fun n : Int => seqR (repR hashR n.toNat) (Pk.numR 1)
theorem rep_err {α : Type} {p : Rd α} (hp : ∀ l e, e ≠ 0 → (p l e).2.2 ≠ 0) : ∀ (k : Nat) (l : List UInt8) (e : Int), e ≠ 0 → (repR p k l e).2.2 ≠ 0
  | 0, _, _, h => h
  | k + 1, l, e, h => hp _ _ (rep_err hp k l e h)
theorem setRC : Codec setR (fun x => Pk.beN x.1.toNat 1 ++ (x.2.1.flatMap (fun s => s.data.toList) ++ Pk.beN x.2.2.toNat 1))
    (fun x => (Pk.fits x.1 1 = true ∧ x.1 ≤ 9223372036854775807) ∧ ((x.2.1.length = x.1.toNat ∧ ∀ s ∈ x.2.1, s.size = 32) ∧ (Pk.fits x.2.2 1 = true ∧ x.2.2 ≤ 9223372036854775807))) :=
  Codec.both (q := fun n : Int => seqR (repR hashR n.toNat) (Pk.numR 1)) (lay2 := fun _ x => x.1.flatMap (fun s => s.data.toList) ++ Pk.beN x.2.toNat 1) (ok2 := fun (n : Int) x => (x.1.length = n.toNat ∧ ∀ s ∈ x.1, s.size = 32) ∧ (Pk.fits x.2 1 = true ∧ x.2 ≤ 9223372036854775807)) (numC 1)
    (fun _ _ _ h => (numC 1).err _ _ (rep_err hashC.err _ _ _ h)) fun n _ => (hashC.rep n.toNat).seq (numC 1)
def setP : Rd SetM := fun l e => ((setR l e).1.2, (setR l e).2)
theorem chk_sizes {ids : List ByteArray} {need : Int} (h : chkB ids need = true) : ∀ s ∈ ids, s.size = 32 := by
  intro s hs
  obtain ⟨i, hi, rfl⟩ := List.mem_iff_getElem.1 hs
  have h1 := ((chkB_iff ids need).1 h).2.2.2 i hi
  rw [okAt, Bool.and_eq_true, decide_eq_true_iff] at h1
  simpa [List.getD, hi] using h1.1
theorem setC : Codec setP laySt (fun s => (s.1.length < 256 ∧ ∀ x ∈ s.1, x.size = 32) ∧ (Pk.fits s.2 1 = true ∧ s.2 ≤ 9223372036854775807)) := by
  refine setRC.conv (fun x => x.2) (fun s => (s.1.length, s.1, s.2)) laySt _ setP (fun _ _ => rfl) ?_ ?_
  · rintro ⟨n, ids, m⟩ ⟨⟨h1, h2⟩, ⟨h3, h4⟩, h5⟩
    have h6 := ((fits_iff _ _).1 h1).2
    dsimp only at *
    exact ⟨⟨⟨by omega, h4⟩, h5⟩, by rw [laySt, h3]⟩
  · rintro ⟨ids, m⟩ ⟨⟨h1, h2⟩, h3⟩
    dsimp only at *
    exact ⟨⟨⟨(fits_iff _ _).2 ⟨by omega, by rw [Int.toNat_natCast]; omega⟩, by omega⟩, ⟨by rw [Int.toNat_natCast], h2⟩, h3⟩, by rw [Int.toNat_natCast]; rfl, rfl⟩
theorem takeA_eq (l : List UInt8) (e : Int) : takeA l e = ((setP l e).1.1, (setP l e).1.2, (setP l e).2) := by
  unfold takeA setP setR andR seqR
  dsimp only
  rw [raws_rep]
def stOk (s : SetM) : Prop := chkB s.1 s.2 = true
theorem takeC : Codec takeP laySt stOk := by
  have h := setC.chk stOk takeP (fun l e h0 => ?_) (fun l h0 hg => ?_)
  · refine h.conv id id laySt stOk takeP (fun _ _ => rfl) (fun a ha => ⟨ha.2, rfl⟩) (fun a ha => ⟨⟨⟨⟨?_, chk_sizes ha⟩, ?_⟩, ha⟩, rfl, rfl⟩)
    · have := ((chkB_iff _ _).1 ha).2.2.1; show a.1.length < 256; omega
    · have := (chkB_iff _ _).1 ha
      exact ⟨(fits_iff _ _).2 ⟨by show 0 ≤ a.2; omega, by show a.2.toNat < 256; omega⟩, by show a.2 ≤ _; omega⟩
  · have h0' : errT (takeA l e) = 0 := h0
    have hc : chkB (takeA l e).1 (takeA l e).2.1 = true := by
      by_cases hc : chkB (takeA l e).1 (takeA l e).2.1 = true
      · exact hc
      · rw [errT, if_neg hc] at h0'; exact absurd h0' (failE_ne _)
    have h1 : errT (takeA l e) = (takeA l e).2.2.2 := by rw [errT, if_pos hc]
    rw [h1] at h0'
    have hp : takeP l e = setP l e := by
      unfold takeP idsT needT
      rw [h1, if_pos h0', if_pos h0', takeA_eq]
    rw [takeA_eq] at h0' hc
    exact ⟨h0', hc, hp⟩
  · have hc : chkB (takeA l 0).1 (takeA l 0).2.1 = true := by rw [takeA_eq]; exact hg
    have h1 : errT (takeA l 0) = (takeA l 0).2.2.2 := by rw [errT, if_pos hc]
    have h2 : (takeA l 0).2.2.2 = 0 := by rw [takeA_eq]; exact h0
    unfold takeP idsT needT
    rw [h1, if_pos h2, if_pos h2, takeA_eq]
theorem setIs_any {s : SetM} (h : stOk s) : (setIs s.1 s.2).any (fun x => !x.1) = false ∧ (setIs s.1 s.2).flatMap (fun x => x.2) = laySt s := by
  have h' := (chkB_iff s.1 s.2).1 h
  have hs := chk_sizes h
  have f1 : (numI s.1.length).1 = true := (fits_iff _ _).2 ⟨by omega, by rw [Int.toNat_natCast]; have : (256 : Nat) ^ 1 = 256 := rfl; omega⟩
  have f2 : (numI s.2).1 = true := (fits_iff _ _).2 ⟨by omega, by have : (256 : Nat) ^ 1 = 256 := rfl; omega⟩
  have f3 : ∀ l : List ByteArray, (∀ x ∈ l, x.size = 32) → (l.map idI).any (fun x => !x.1) = false ∧ (l.map idI).flatMap (fun x => x.2) = l.flatMap (fun x => x.data.toList) := by
    intro l hl
    induction l with
    | nil => exact ⟨rfl, rfl⟩
    | cons x l ih =>
      obtain ⟨i1, i2⟩ := ih fun y hy => hl y (List.mem_cons_of_mem _ hy)
      have : (idI x).1 = true := by unfold idI; exact decide_eq_true (hl x (List.mem_cons_self ..))
      exact ⟨by rw [List.map_cons, List.any_cons, this, i1]; rfl, by rw [List.map_cons, List.flatMap_cons, List.flatMap_cons, i2]; rfl⟩
  obtain ⟨g1, g2⟩ := f3 s.1 hs
  have hc : chkB s.1 s.2 = true := h
  rw [setIs, if_pos hc]
  refine ⟨by rw [List.any_cons, List.any_append, f1, g1, List.any_cons, f2]; rfl, ?_⟩
  rw [List.flatMap_cons, List.flatMap_append, g2, List.flatMap_singleton, laySt]
  show Pk.beN (s.1.length : Int).toNat 1 ++ _ = _
  rw [Int.toNat_natCast]; rfl

/-- A target, and the list of them. -/
abbrev TgM := Int × Int × ByteArray
def tgP : Rd TgM := seqR (Pk.numR 1) (seqR (Pk.numR 2) hashR)
def layTg (t : TgM) : List UInt8 := Pk.beN t.1.toNat 1 ++ (Pk.beN t.2.1.toNat 2 ++ t.2.2.data.toList)
def tgOk (t : TgM) : Prop := (Pk.fits t.1 1 = true ∧ t.1 ≤ 9223372036854775807) ∧ (Pk.fits t.2.1 2 = true ∧ t.2.1 ≤ 9223372036854775807) ∧ t.2.2.size = 32
theorem tgC : Codec tgP layTg tgOk := (numC 1).seq ((numC 2).seq hashC)
def listP : Rd (List TgM) := fun l e => ((andR (Pk.numR 1) (fun n => repR tgP n.toNat) l e).1.2, (andR (Pk.numR 1) (fun n => repR tgP n.toNat) l e).2)
def layLs (ts : List TgM) : List UInt8 := Pk.beN ts.length 1 ++ ts.flatMap layTg
def lsOk (ts : List TgM) : Prop := ts.length < 256 ∧ ∀ t ∈ ts, tgOk t
theorem listC : Codec listP layLs lsOk := by
  refine (Codec.both (q := fun n : Int => repR tgP n.toNat) (lay2 := fun _ x => x.flatMap layTg) (ok2 := fun (n : Int) x => x.length = n.toNat ∧ ∀ y ∈ x, tgOk y) (numC 1) (fun _ => rep_err tgC.err _) fun n _ => tgC.rep n.toNat).conv (fun x => x.2) (fun s => (s.length, s)) layLs lsOk listP (fun l e => rfl) ?_ ?_
  · rintro ⟨n, sg⟩ ⟨⟨h1, h2⟩, h3, h4⟩
    have h6 := ((fits_iff _ _).1 h1).2
    have : (256 : Nat) ^ 1 = 256 := rfl
    dsimp only at *
    exact ⟨⟨by omega, h4⟩, by rw [layLs, h3]⟩
  · rintro sg ⟨h1, h2⟩
    have : (256 : Nat) ^ 1 = 256 := rfl
    exact ⟨⟨⟨(fits_iff _ _).2 ⟨by omega, by rw [Int.toNat_natCast]; omega⟩, by show (sg.length : Int) ≤ _; omega⟩, by show sg.length = (sg.length : Int).toNat; rw [Int.toNat_natCast], h2⟩, by show Pk.beN (sg.length : Int).toNat 1 ++ _ = _; rw [Int.toNat_natCast]; rfl, rfl⟩

/-- The fields that stand in documents of one kind or another. -/
structure Fl where
  r0 : SetM
  r1 : SetM
  r2 : SetM
  r3 : SetM
  wt : SetM
  lg : ByteArray
  og : ByteArray
  ls : List TgM
  pt : Ck
  oo : Int
  hs : ByteArray
def z0 : SetM := ([], 0)
def ck0 : Ck := ⟨ByteArray.empty, 0, ByteArray.empty⟩
def fl0 : Fl := ⟨z0, z0, z0, z0, z0, ByteArray.empty, ByteArray.empty, [], ck0, 0, ByteArray.empty⟩
/-- A document. -/
structure Dc where
  k : Int
  v : Int
  x : Int
  f : Fl
def dc0 : Dc := ⟨0, 0, 0, fl0⟩

/-- What a root says. -/
abbrev RuM := SetM × SetM × SetM × SetM × SetM × ByteArray × ByteArray
def rulP : Rd RuM := seqR takeP (seqR takeP (seqR takeP (seqR takeP (seqR takeP (seqR hashR (textsR 64))))))
def layRu (x : RuM) : List UInt8 := laySt x.1 ++ (laySt x.2.1 ++ (laySt x.2.2.1 ++ (laySt x.2.2.2.1 ++ (laySt x.2.2.2.2.1 ++ (x.2.2.2.2.2.1.data.toList ++ Pk.textL x.2.2.2.2.2.2)))))
def okRu (x : RuM) : Prop := stOk x.1 ∧ stOk x.2.1 ∧ stOk x.2.2.1 ∧ stOk x.2.2.2.1 ∧ stOk x.2.2.2.2.1 ∧ x.2.2.2.2.2.1.size = 32 ∧ x.2.2.2.2.2.2.size ≤ 64
theorem tx64 : Codec (textsR 64) Pk.textL (fun s => s.size ≤ 64) := textC 64 (by decide)
theorem rulC : Codec rulP layRu okRu := takeC.seq (takeC.seq (takeC.seq (takeC.seq (takeC.seq (hashC.seq tx64)))))
/-- A number that is laid in two bytes. -/
def ok2 (n : Int) : Prop := Pk.fits n 2 = true ∧ n ≤ 9223372036854775807
/-- What a snapshot says: the version, the hash, the checkpoint. -/
abbrev SnM := Int × ByteArray × ByteArray × Int × ByteArray
def snaP : Rd SnM := seqR (Pk.numR 2) (seqR hashR (seqR (textsR 64) (seqR (Pk.numR 2) hashR)))
def laySn (x : SnM) : List UInt8 := Pk.beN x.1.toNat 2 ++ (x.2.1.data.toList ++ (Pk.textL x.2.2.1 ++ (Pk.beN x.2.2.2.1.toNat 2 ++ x.2.2.2.2.data.toList)))
def okSn (x : SnM) : Prop := ok2 x.1 ∧ x.2.1.size = 32 ∧ x.2.2.1.size ≤ 64 ∧ ok2 x.2.2.2.1 ∧ x.2.2.2.2.size = 32
theorem snaC : Codec snaP laySn okSn := (numC 2).seq (hashC.seq (tx64.seq ((numC 2).seq hashC)))
abbrev LkM := Int × ByteArray
def lnkP : Rd LkM := seqR (Pk.numR 2) hashR
def layLk (x : LkM) : List UInt8 := Pk.beN x.1.toNat 2 ++ x.2.data.toList
def okLk (x : LkM) : Prop := ok2 x.1 ∧ x.2.size = 32
theorem lnkC : Codec lnkP layLk okLk := (numC 2).seq hashC
def fRul (x : RuM) : Fl := { fl0 with r0 := x.1, r1 := x.2.1, r2 := x.2.2.1, r3 := x.2.2.2.1, wt := x.2.2.2.2.1, lg := x.2.2.2.2.2.1, og := x.2.2.2.2.2.2 }
def gRul (f : Fl) : RuM := (f.r0, f.r1, f.r2, f.r3, f.wt, f.lg, f.og)
def fLst (x : List TgM) : Fl := { fl0 with ls := x }
def fSna (x : SnM) : Fl := { fl0 with oo := x.1, hs := x.2.1, pt := ⟨x.2.2.1, x.2.2.2.1, x.2.2.2.2⟩ }
def gSna (f : Fl) : SnM := (f.oo, f.hs, f.pt.o, f.pt.n, f.pt.r)
def fLnk (x : LkM) : Fl := { fl0 with oo := x.1, hs := x.2 }
def gLnk (f : Fl) : LkM := (f.oo, f.hs)
/-- The fields of a kind, as they are read. -/
def fldR (k : Int) : Rd Fl := fun l e =>
  if k = 1 then (fRul (rulP l e).1, (rulP l e).2) else if k = 2 then (fLst (listP l e).1, (listP l e).2) else if k = 3 then (fSna (snaP l e).1, (snaP l e).2) else if k = 4 then (fLnk (lnkP l e).1, (lnkP l e).2) else (fl0, l, e)
def layFl (k : Int) (f : Fl) : List UInt8 :=
  if k = 1 then layRu (gRul f) else if k = 2 then layLs f.ls else if k = 3 then laySn (gSna f) else if k = 4 then layLk (gLnk f) else []
def flOk (k : Int) (f : Fl) : Prop :=
  if k = 1 then okRu (gRul f) ∧ fRul (gRul f) = f else if k = 2 then lsOk f.ls ∧ fLst f.ls = f else if k = 3 then okSn (gSna f) ∧ fSna (gSna f) = f else if k = 4 then okLk (gLnk f) ∧ fLnk (gLnk f) = f else f = fl0
theorem fldC (k : Int) : Codec (fldR k) (layFl k) (flOk k) := by
  by_cases h1 : k = 1
  · subst h1
    exact rulC.conv fRul gRul _ _ _ (fun _ _ => rfl) (fun a ha => ⟨⟨ha, rfl⟩, rfl⟩) (fun b hb => ⟨hb.1, rfl, hb.2⟩)
  by_cases h2 : k = 2
  · subst h2
    exact listC.conv fLst Fl.ls _ _ _ (fun _ _ => rfl) (fun a ha => ⟨⟨ha, rfl⟩, rfl⟩) (fun b hb => ⟨hb.1, rfl, hb.2⟩)
  by_cases h3 : k = 3
  · subst h3
    exact snaC.conv fSna gSna _ _ _ (fun _ _ => rfl) (fun a ha => ⟨⟨ha, rfl⟩, rfl⟩) (fun b hb => ⟨hb.1, rfl, hb.2⟩)
  by_cases h4 : k = 4
  · subst h4
    exact lnkC.conv fLnk gLnk _ _ _ (fun _ _ => rfl) (fun a ha => ⟨⟨ha, rfl⟩, rfl⟩) (fun b hb => ⟨hb.1, rfl, hb.2⟩)
  have e1 : fldR k = fun l e => (fl0, l, e) := by funext l e; rw [fldR, if_neg h1, if_neg h2, if_neg h3, if_neg h4]
  have e2 : layFl k = fun _ => [] := by funext f; rw [layFl, if_neg h1, if_neg h2, if_neg h3, if_neg h4]
  have e3 : flOk k = fun f => f = fl0 := by funext f; rw [flOk, if_neg h1, if_neg h2, if_neg h3, if_neg h4]
  rw [e1, e2, e3]
  exact ⟨fun _ _ h => h, fun _ _ => ⟨rfl, rfl⟩, fun a r h => by subst h; rfl⟩
def rdD : Rd Dc := fun l e =>
  (⟨(Pk.numR 1 l e).1, (Pk.numR 2 (Pk.numR 1 l e).2.1 (Pk.numR 1 l e).2.2).1, (Pk.numR 8 (Pk.numR 2 (Pk.numR 1 l e).2.1 (Pk.numR 1 l e).2.2).2.1 (Pk.numR 2 (Pk.numR 1 l e).2.1 (Pk.numR 1 l e).2.2).2.2).1,
    (fldR (Pk.numR 1 l e).1 (Pk.numR 8 (Pk.numR 2 (Pk.numR 1 l e).2.1 (Pk.numR 1 l e).2.2).2.1 (Pk.numR 2 (Pk.numR 1 l e).2.1 (Pk.numR 1 l e).2.2).2.2).2.1 (Pk.numR 8 (Pk.numR 2 (Pk.numR 1 l e).2.1 (Pk.numR 1 l e).2.2).2.1 (Pk.numR 2 (Pk.numR 1 l e).2.1 (Pk.numR 1 l e).2.2).2.2).2.2).1⟩,
   (fldR (Pk.numR 1 l e).1 (Pk.numR 8 (Pk.numR 2 (Pk.numR 1 l e).2.1 (Pk.numR 1 l e).2.2).2.1 (Pk.numR 2 (Pk.numR 1 l e).2.1 (Pk.numR 1 l e).2.2).2.2).2.1 (Pk.numR 8 (Pk.numR 2 (Pk.numR 1 l e).2.1 (Pk.numR 1 l e).2.2).2.1 (Pk.numR 2 (Pk.numR 1 l e).2.1 (Pk.numR 1 l e).2.2).2.2).2.2).2)
def ok8 (k : Nat) (n : Int) : Prop := Pk.fits n k = true ∧ n ≤ 9223372036854775807
def layD (d : Dc) : List UInt8 := Pk.beN d.k.toNat 1 ++ (Pk.beN d.v.toNat 2 ++ (Pk.beN d.x.toNat 8 ++ layFl d.k d.f))
def okD (d : Dc) : Prop := ok8 1 d.k ∧ ok8 2 d.v ∧ ok8 8 d.x ∧ flOk d.k d.f
theorem docC : Codec rdD layD okD := by
  have h : Codec (andR (Pk.numR 1) fun k => seqR (Pk.numR 2) (seqR (Pk.numR 8) (fldR k))) (fun x => Pk.beN x.1.toNat 1 ++ (Pk.beN x.2.1.toNat 2 ++ (Pk.beN x.2.2.1.toNat 8 ++ layFl x.1 x.2.2.2))) (fun x => ok8 1 x.1 ∧ ok8 2 x.2.1 ∧ ok8 8 x.2.2.1 ∧ flOk x.1 x.2.2.2) :=
    Codec.both (q := fun k => seqR (Pk.numR 2) (seqR (Pk.numR 8) (fldR k))) (lay2 := fun k x => Pk.beN x.1.toNat 2 ++ (Pk.beN x.2.1.toNat 8 ++ layFl k x.2.2)) (ok2 := fun k x => ok8 2 x.1 ∧ ok8 8 x.2.1 ∧ flOk k x.2.2) (numC 1) (fun k => ((numC 2).seq ((numC 8).seq (fldC k))).err) fun k _ => (numC 2).seq ((numC 8).seq (fldC k))
  exact h.conv (fun x : Int × Int × Int × Fl => (⟨x.1, x.2.1, x.2.2.1, x.2.2.2⟩ : Dc)) (fun d : Dc => (d.k, d.v, d.x, d.f)) layD okD rdD (fun _ _ => rfl) (fun _ ha => ⟨ha, rfl⟩) (fun _ hb => ⟨hb, rfl, rfl⟩)

/-- Whether a document is good. -/
def tgAt (ts : List TgM) (i : Nat) : Bool := decide (1 ≤ (ts.getD i default).1 ∧ (ts.getD i default).1 ≤ 255 ∧ 0 ≤ (ts.getD i default).2.1 ∧ (ts.getD i default).2.1 < 1024 ∧ (ts.getD i default).2.2.size = 32) && (decide (i = 0) || decide ((ts.getD (i - 1) default).1 < (ts.getD i default).1))
def listB (ts : List TgM) : Bool := decide (ts.length ≤ 64) && (List.range ts.length).all (tgAt ts)
def chkS (s : SetM) : Bool := chkB s.1 s.2
def noS (s : SetM) : Bool := decide (s.1.length = 0) && decide (s.2 = 0)
def ruB (f : Fl) : Bool := chkS f.r0 && (chkS f.r1 && (chkS f.r2 && (chkS f.r3 && (chkS f.wt && (decide (f.lg.size = 32) && gO f.og.data.toList)))))
def noRu (f : Fl) : Bool := noS f.r0 && (noS f.r1 && (noS f.r2 && (noS f.r3 && (noS f.wt && (decide (f.lg = ByteArray.empty) && decide (f.og = ByteArray.empty))))))
def noLs (f : Fl) : Bool := decide (f.ls.length = 0)
def noPt (f : Fl) : Bool := decide (f.pt.o = ByteArray.empty) && (decide (f.pt.n = 0) && decide (f.pt.r = ByteArray.empty))
def lkB (f : Fl) : Bool := decide (1 ≤ f.oo ∧ f.oo ≤ 65535) && decide (f.hs.size = 32)
def noLk (f : Fl) : Bool := decide (f.oo = 0) && decide (f.hs = ByteArray.empty)
def fldB (k : Int) (f : Fl) : Bool :=
  if k = 1 then ruB f && (noLs f && (noPt f && noLk f)) else if k = 2 then noRu f && (listB f.ls && (noPt f && noLk f)) else if k = 3 then noRu f && (noLs f && (gC f.pt && lkB f)) else if k = 4 then noRu f && (noLs f && (noPt f && lkB f)) else false
def chkD (d : Dc) : Bool := decide (1 ≤ d.v ∧ d.v ≤ 65535) && (decide (0 ≤ d.x ∧ d.x ≤ 1099511627776) && fldB d.k d.f)
def chkDE (d : Dc) : Int := if chkD d then 0 else 1
theorem noS_eq {s : SetM} (h : noS s = true) : s = z0 := by
  obtain ⟨a, b⟩ := s
  simp only [noS, Bool.and_eq_true, decide_eq_true_iff] at h
  exact Prod.ext (List.eq_nil_of_length_eq_zero h.1) h.2
theorem noPt_eq {f : Fl} (h : noPt f = true) : f.pt = ck0 := by
  obtain ⟨a, b, c, d, e, g, i, j, ⟨o, n, r⟩, k, l⟩ := f
  simp only [noPt, Bool.and_eq_true, decide_eq_true_iff] at h
  obtain ⟨rfl, rfl, rfl⟩ := h
  rfl
theorem fl_ext {f g : Fl} (h0 : f.r0 = g.r0) (h1 : f.r1 = g.r1) (h2 : f.r2 = g.r2) (h3 : f.r3 = g.r3) (h4 : f.wt = g.wt) (h5 : f.lg = g.lg) (h6 : f.og = g.og) (h7 : f.ls = g.ls) (h8 : f.pt = g.pt) (h9 : f.oo = g.oo) (ha : f.hs = g.hs) : f = g := by
  cases f; cases g; simp_all
theorem tg_ok {ts : List TgM} (h : listB ts = true) : lsOk ts := by
  simp only [listB, Bool.and_eq_true, decide_eq_true_iff] at h
  refine ⟨by omega, fun t ht => ?_⟩
  obtain ⟨i, hi, rfl⟩ := List.mem_iff_getElem.1 ht
  have h1 := List.all_eq_true.1 h.2 i (List.mem_range.2 hi)
  simp only [tgAt, Bool.and_eq_true, decide_eq_true_iff] at h1
  have hg : ts.getD i default = ts[i] := by simp [List.getD, hi]
  rw [hg] at h1
  have p1 : (256 : Nat) ^ 1 = 256 := rfl
  have p2 : (256 : Nat) ^ 2 = 65536 := rfl
  exact ⟨⟨(fits_iff _ _).2 ⟨by omega, by omega⟩, by omega⟩, ⟨(fits_iff _ _).2 ⟨by omega, by omega⟩, by omega⟩, by omega⟩
theorem lk_ok {f : Fl} (h : lkB f = true) : ok2 f.oo ∧ f.hs.size = 32 := by
  simp only [lkB, Bool.and_eq_true, decide_eq_true_iff] at h
  have p2 : (256 : Nat) ^ 2 = 65536 := rfl
  exact ⟨⟨(fits_iff _ _).2 ⟨by omega, by omega⟩, by omega⟩, h.2⟩
theorem gC_ok {c : Ck} (h : gC c = true) : c.o.size ≤ 64 ∧ ok2 c.n ∧ c.r.size = 32 := by
  simp only [gC, Bool.and_eq_true, decide_eq_true_iff] at h
  have p2 : (256 : Nat) ^ 2 = 65536 := rfl
  have h1 := h.1.1.1
  simp only [gO, Bool.and_eq_true, decide_eq_true_iff] at h1
  have h2 := h1.2.2
  rw [data_len] at h2
  exact ⟨h2, ⟨(fits_iff _ _).2 ⟨by omega, by omega⟩, by omega⟩, h.2⟩
theorem fld_ok {k : Int} {f : Fl} (h : fldB k f = true) : (k = 1 ∨ k = 2 ∨ k = 3 ∨ k = 4) ∧ flOk k f := by
  unfold fldB at h
  by_cases h1 : k = 1
  · subst h1
    rw [if_pos rfl] at h
    simp only [ruB, chkS, noLs, noLk, Bool.and_eq_true, decide_eq_true_iff] at h
    obtain ⟨⟨c0, c1, c2, c3, c4, c5, c6⟩, c7, c8, c9, c10⟩ := h
    refine ⟨.inl rfl, ?_⟩
    show okRu (gRul f) ∧ fRul (gRul f) = f
    have c6' : f.og.size ≤ 64 := gO_size c6
    exact ⟨⟨c0, c1, c2, c3, c4, c5, c6'⟩, fl_ext rfl rfl rfl rfl rfl rfl rfl (List.eq_nil_of_length_eq_zero c7).symm (noPt_eq c8).symm c9.symm c10.symm⟩
  rw [if_neg h1] at h
  by_cases h2 : k = 2
  · subst h2
    rw [if_pos rfl] at h
    simp only [noRu, noLk, Bool.and_eq_true, decide_eq_true_iff] at h
    obtain ⟨⟨c0, c1, c2, c3, c4, c5, c6⟩, c7, c8, c9, c10⟩ := h
    refine ⟨.inr (.inl rfl), ?_⟩
    show lsOk f.ls ∧ fLst f.ls = f
    exact ⟨tg_ok c7, fl_ext (noS_eq c0).symm (noS_eq c1).symm (noS_eq c2).symm (noS_eq c3).symm (noS_eq c4).symm c5.symm c6.symm rfl (noPt_eq c8).symm c9.symm c10.symm⟩
  rw [if_neg h2] at h
  by_cases h3 : k = 3
  · subst h3
    rw [if_pos rfl] at h
    simp only [noRu, noLs, Bool.and_eq_true, decide_eq_true_iff] at h
    obtain ⟨⟨c0, c1, c2, c3, c4, c5, c6⟩, c7, c8, c9⟩ := h
    refine ⟨.inr (.inr (.inl rfl)), ?_⟩
    show okSn (gSna f) ∧ fSna (gSna f) = f
    obtain ⟨g1, g2, g3⟩ := gC_ok c8
    obtain ⟨g4, g5⟩ := lk_ok c9
    exact ⟨⟨g4, g5, g1, g2, g3⟩, fl_ext (noS_eq c0).symm (noS_eq c1).symm (noS_eq c2).symm (noS_eq c3).symm (noS_eq c4).symm c5.symm c6.symm (List.eq_nil_of_length_eq_zero c7).symm rfl rfl rfl⟩
  rw [if_neg h3] at h
  by_cases h4 : k = 4
  · subst h4
    rw [if_pos rfl] at h
    simp only [noRu, noLs, Bool.and_eq_true, decide_eq_true_iff] at h
    obtain ⟨⟨c0, c1, c2, c3, c4, c5, c6⟩, c7, c8, c9⟩ := h
    refine ⟨.inr (.inr (.inr rfl)), ?_⟩
    show okLk (gLnk f) ∧ fLnk (gLnk f) = f
    exact ⟨lk_ok c9, fl_ext (noS_eq c0).symm (noS_eq c1).symm (noS_eq c2).symm (noS_eq c3).symm (noS_eq c4).symm c5.symm c6.symm (List.eq_nil_of_length_eq_zero c7).symm (noPt_eq c8).symm rfl rfl⟩
  rw [if_neg h4] at h
  cases h
theorem chk_ok {d : Dc} (h : chkD d = true) : okD d := by
  simp only [chkD, Bool.and_eq_true, decide_eq_true_iff] at h
  obtain ⟨h1, h2, h3⟩ := h
  obtain ⟨h4, h5⟩ := fld_ok h3
  have p1 : (256 : Nat) ^ 1 = 256 := rfl
  have p2 : (256 : Nat) ^ 2 = 65536 := rfl
  have p8 : (256 : Nat) ^ 8 = 18446744073709551616 := rfl
  exact ⟨⟨(fits_iff _ _).2 ⟨by omega, by omega⟩, by omega⟩, ⟨(fits_iff _ _).2 ⟨by omega, by omega⟩, by omega⟩, ⟨(fits_iff _ _).2 ⟨by omega, by omega⟩, by omega⟩, h5⟩
/-- What the bytes are, told and read. -/
def encV (d : Dc) : ByteArray × Int := if chkD d then (Pk.btx (layD d), 0) else (ByteArray.empty, 1)
def decM (l : List UInt8) : Dc × Int := if Pk.endE (rdD l 0).2.1 (rdD l 0).2.2 = 0 ∧ chkD (rdD l 0).1 = true then ((rdD l 0).1, 0) else (dc0, 3)
theorem endE_iff (l : List UInt8) (e : Int) : Pk.endE l e = 0 ↔ l = [] ∧ e = 0 := by
  unfold Pk.endE
  cases l with
  | nil => simp
  | cons x l =>
    rw [if_pos (by simp)]
    constructor
    · intro h; exact absurd h (failE_ne e)
    · rintro ⟨h, _⟩; cases h
theorem dec_told {l : List UInt8} (h : (decM l).2 = 0) : chkD (decM l).1 = true ∧ layD (decM l).1 = l := by
  unfold decM at h ⊢
  by_cases hc : Pk.endE (rdD l 0).2.1 (rdD l 0).2.2 = 0 ∧ chkD (rdD l 0).1 = true
  · rw [if_pos hc]
    obtain ⟨h1, h2⟩ := (endE_iff _ _).1 hc.1
    have := (docC.told l h2).2
    rw [h1, List.append_nil] at this
    exact ⟨hc.2, this.symm⟩
  · rw [if_neg hc] at h; exact absurd h (by decide)
/-- What is laid, item by item. -/
def nuI (n : Int) (k : Nat) : Bool × List UInt8 := (Pk.fits n k, Pk.beN n.toNat k)
def tgI (t : TgM) : List (Bool × List UInt8) := [nuI t.1 1, nuI t.2.1 2, idI t.2.2]
def itsF (k : Int) (f : Fl) : List (Bool × List UInt8) :=
  if k = 1 then setIs f.r0.1 f.r0.2 ++ (setIs f.r1.1 f.r1.2 ++ (setIs f.r2.1 f.r2.2 ++ (setIs f.r3.1 f.r3.2 ++ (setIs f.wt.1 f.wt.2 ++ [idI f.lg, txI f.og])))) else if k = 2 then nuI f.ls.length 1 :: f.ls.flatMap tgI else if k = 3 then [nuI f.oo 2, idI f.hs, txI f.pt.o, nuI f.pt.n 2, idI f.pt.r] else if k = 4 then [nuI f.oo 2, idI f.hs] else []
def itsD (d : Dc) : List (Bool × List UInt8) := nuI d.k 1 :: nuI d.v 2 :: nuI d.x 8 :: itsF d.k d.f
/-- Items that all fit, and their bytes. -/
def Fit (its : List (Bool × List UInt8)) (s : List UInt8) : Prop := its.any (fun x => !x.1) = false ∧ its.flatMap (fun x => x.2) = s
theorem Fit.nil : Fit [] [] := ⟨rfl, rfl⟩
theorem Fit.app {a b : List (Bool × List UInt8)} {s t : List UInt8} (h : Fit a s) (k : Fit b t) : Fit (a ++ b) (s ++ t) := ⟨by rw [List.any_append, h.1, k.1]; rfl, by rw [List.flatMap_append, h.2, k.2]⟩
theorem Fit.cons {x : Bool × List UInt8} {b : List (Bool × List UInt8)} {t : List UInt8} (h : x.1 = true) (k : Fit b t) : Fit (x :: b) (x.2 ++ t) := ⟨by rw [List.any_cons, h, k.1]; rfl, by rw [List.flatMap_cons, k.2]⟩
theorem Fit.one {x : Bool × List UInt8} (h : x.1 = true) : Fit [x] x.2 := ⟨by simp [h], by simp⟩
theorem fit_st {s : SetM} (h : stOk s) : Fit (setIs s.1 s.2) (laySt s) := setIs_any h
theorem fit_id {s : ByteArray} (h : s.size = 32) : (idI s).1 = true := decide_eq_true h
theorem fit_tx {s : ByteArray} (h : s.size ≤ 64) : (txI s).1 = true := decide_eq_true (by omega)
theorem fit_ls : ∀ {ts : List TgM}, (∀ t ∈ ts, tgOk t) → Fit (ts.flatMap tgI) (ts.flatMap layTg)
  | [], _ => Fit.nil
  | t :: ts, h => by
    have k := h t (List.mem_cons_self ..)
    have e : layTg t = (nuI t.1 1).2 ++ ((nuI t.2.1 2).2 ++ (idI t.2.2).2) := rfl
    rw [List.flatMap_cons, List.flatMap_cons, e]
    exact (Fit.cons k.1.1 (Fit.cons k.2.1.1 (Fit.one (fit_id k.2.2)))).app (fit_ls fun x hx => h x (List.mem_cons_of_mem _ hx))
theorem fit_fl {k : Int} {f : Fl} (h : flOk k f) : Fit (itsF k f) (layFl k f) := by
  unfold flOk at h
  unfold itsF layFl
  by_cases h1 : k = 1
  · subst h1
    rw [if_pos rfl] at h ⊢; rw [if_pos rfl]
    obtain ⟨⟨c0, c1, c2, c3, c4, c5, c6⟩, _⟩ := h
    exact (fit_st c0).app ((fit_st c1).app ((fit_st c2).app ((fit_st c3).app ((fit_st c4).app (Fit.cons (fit_id c5) (Fit.one (fit_tx c6)))))))
  rw [if_neg h1] at h ⊢; rw [if_neg h1]
  by_cases h2 : k = 2
  · subst h2
    rw [if_pos rfl] at h ⊢; rw [if_pos rfl]
    obtain ⟨⟨c0, c1⟩, _⟩ := h
    have p1 : (256 : Nat) ^ 1 = 256 := rfl
    have := Fit.cons (x := nuI f.ls.length 1) ((fits_iff _ _).2 ⟨by omega, by rw [Int.toNat_natCast]; omega⟩) (fit_ls c1)
    rwa [show (nuI f.ls.length 1).2 = Pk.beN f.ls.length 1 by show Pk.beN (f.ls.length : Int).toNat 1 = _; rw [Int.toNat_natCast]] at this
  rw [if_neg h2] at h ⊢; rw [if_neg h2]
  by_cases h3 : k = 3
  · subst h3
    rw [if_pos rfl] at h ⊢; rw [if_pos rfl]
    obtain ⟨⟨c0, c1, c2, c3, c4⟩, _⟩ := h
    exact Fit.cons (x := nuI f.oo 2) c0.1 (Fit.cons (fit_id c1) (Fit.cons (fit_tx c2) (Fit.cons (x := nuI f.pt.n 2) c3.1 (Fit.one (fit_id c4)))))
  rw [if_neg h3] at h ⊢; rw [if_neg h3]
  by_cases h4 : k = 4
  · subst h4
    rw [if_pos rfl] at h ⊢; rw [if_pos rfl]
    obtain ⟨⟨c0, c1⟩, _⟩ := h
    exact Fit.cons (x := nuI f.oo 2) c0.1 (Fit.one (fit_id c1))
  rw [if_neg h4, if_neg h4]; exact Fit.nil
theorem fit_doc {d : Dc} (h : chkD d = true) : Fit (itsD d) (layD d) := by
  obtain ⟨h1, h2, h3, h4⟩ := chk_ok h
  exact Fit.cons (x := nuI d.k 1) h1.1 (Fit.cons (x := nuI d.v 2) h2.1 (Fit.cons (x := nuI d.x 8) h3.1 (fit_fl h4)))
theorem Laid.fit {its : List (Bool × List UInt8)} {s l' : List UInt8} {bad' : Bool} (h : Laid its [] false l' bad') (k : Fit its s) : Pk.bytesR l' bad' = .tuple #[.string (Pk.btx s), .int .i64 0] := by
  have hb : bad' = false := by rw [h.bad_eq, k.1]; rfl
  subst hb
  rw [h.all rfl, k.2]; rfl

end Go.Proofs.YthkfefkcjcgfkaaGreatDoor.Me
