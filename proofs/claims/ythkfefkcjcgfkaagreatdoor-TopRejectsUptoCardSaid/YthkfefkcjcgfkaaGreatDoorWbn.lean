/- Bills' bytes, on lists: what is laid is read, what is read is told. -/
import Derived.Test.YthkfefkcjcgfkaaGreatDoorWb3
set_option linter.all false
namespace Go.Proofs.YthkfefkcjcgfkaaGreatDoor.Bi
open Go Go.RowKit Go.Proofs.YthkfefkcjcgfkaaGreatDoor
set_option linter.all false

theorem nb_acc (l : List UInt8) : ∀ a : Nat, l.foldl (fun n (x : UInt8) => n * 256 + x.toNat) a = a * 256 ^ l.length + Pk.numL l := by
  induction l with
  | nil => intro a; simp [Pk.numL]
  | cons x l ih =>
    intro a
    have h1 := ih (a * 256 + x.toNat)
    have h2 := ih (0 * 256 + x.toNat)
    show (x :: l).foldl _ a = a * 256 ^ (x :: l).length + (x :: l).foldl _ 0
    rw [List.foldl_cons, List.foldl_cons, h1, h2, List.length_cons, Nat.pow_succ, Nat.zero_mul, Nat.zero_add, Nat.add_mul]
    have e : a * 256 * 256 ^ l.length = a * (256 ^ l.length * 256) := by rw [Nat.mul_assoc, Nat.mul_comm 256]
    rw [e]; omega
theorem nb_cons (x : UInt8) (l : List UInt8) : Pk.numL (x :: l) = x.toNat * 256 ^ l.length + Pk.numL l := by
  have := nb_acc l x.toNat
  rw [Pk.numL, List.foldl_cons]
  simpa using this
theorem beN_mod (m : Nat) : ∀ k j, k ≤ j → Pk.beN (m % 256 ^ j) k = Pk.beN m k
  | 0, _, _ => rfl
  | k + 1, j, h => by
    have hp : 2 ^ (8 * k) = 256 ^ k := by rw [Nat.pow_mul]
    rw [Pk.beN, Pk.beN, beN_mod m k j (by omega), hp]
    congr 2
    have hj : 256 ^ j = 256 ^ k * (256 * 256 ^ (j - k - 1)) := by rw [← Nat.pow_succ', ← Nat.pow_add]; congr 1; omega
    rw [hj, Nat.mod_mul_right_div_self, Nat.mod_mul_right_mod]
theorem beN_nb : ∀ (k : Nat) (l : List UInt8), l.length = k → Pk.beN (Pk.numL l) k = l
  | 0, l, h => by obtain rfl := List.eq_nil_of_length_eq_zero h; rfl
  | k + 1, [], h => by cases h
  | k + 1, x :: l, h => by
    have hl : l.length = k := by simpa using h
    have hp : 2 ^ (8 * k) = 256 ^ k := by rw [Nat.pow_mul]
    have hb := Pk.numL_lt k l hl
    have h1 : Pk.numL (x :: l) / 256 ^ k = x.toNat := by
      rw [nb_cons, hl, Nat.mul_comm, Nat.mul_add_div (Nat.pow_pos (by decide)), Nat.div_eq_of_lt hb, Nat.add_zero]
    have h2 : Pk.numL (x :: l) % 256 ^ k = Pk.numL l := by
      rw [nb_cons, hl, Nat.mul_comm, Nat.mul_add_mod, Nat.mod_eq_of_lt hb]
    rw [Pk.beN, hp, h1, ← beN_mod _ k k (Nat.le_refl _), h2, beN_nb k l hl]
    congr 1
    have := x.toNat_lt
    rw [Nat.mod_eq_of_lt (by omega)]
    exact UInt8.ofNat_toNat
theorem n2 : ¬ ((2 : Int) = 0) := by decide
theorem n3 : ¬ ((3 : Int) = 0) := by decide
theorem n0 : ¬ ((0 : Int) ≠ 0) := by decide
theorem n32 : ¬ ((32 : Int) < 0) := by decide
theorem num_err {k : Nat} {l : List UInt8} {e : Int} (h : (Pk.numR k l e).2.2 = 0) : e = 0 := by
  unfold Pk.numR at h
  split at h
  · exact h
  · next h0 => exact Classical.not_not.1 h0
theorem raw_err {l : List UInt8} {e : Int} (h : (Pk.rawR 32 l e).2.2 = 0) : e = 0 := by
  unfold Pk.rawR at h
  split at h
  · exact h
  · next h0 => exact Classical.not_not.1 h0
theorem num_told (k : Nat) (l : List UInt8) (he : (Pk.numR k l 0).2.2 = 0) : l = Pk.beN (Pk.numR k l 0).1.toNat k ++ (Pk.numR k l 0).2.1 := by
  by_cases h1 : l.length < k
  · rw [Pk.numR, if_neg n0, if_pos h1] at he; exact absurd he n2
  by_cases h2 : 9223372036854775807 < Pk.numL (l.take k)
  · rw [Pk.numR, if_neg n0, if_neg h1, if_pos h2] at he; exact absurd he n3
  rw [Pk.numR, if_neg n0, if_neg h1, if_neg h2]
  have hl : (l.take k).length = k := by rw [List.length_take]; omega
  show l = Pk.beN (Pk.numL (l.take k) : Int).toNat k ++ l.drop k
  rw [Int.toNat_natCast, beN_nb k _ hl, List.take_append_drop]
theorem raw_told (l : List UInt8) (he : (Pk.rawR 32 l 0).2.2 = 0) : l = (Pk.btx (Pk.rawR 32 l 0).1).data.toList ++ (Pk.rawR 32 l 0).2.1 := by
  by_cases h1 : (l.length : Int) < 32
  · rw [Pk.rawR, if_neg n0, if_neg n32, if_pos h1] at he; exact absurd he n2
  rw [Pk.rawR, if_neg n0, if_neg n32, if_neg h1]
  show l = (Pk.btx (l.take 32)).data.toList ++ l.drop 32
  rw [Pk.mk_list, List.take_append_drop]
theorem hd_told (l : List UInt8) (h : (hdR l).e = 0) : l = leafL (hdR l).v (hdR l).s (hdR l).c (hdR l).h (hdR l).t ++ (hdR l).l := by
  obtain ⟨X1, X2, X3, X4, X5, e1, e2, e3, e4, e5, e6⟩ := hd_steps l
  rw [e6] at h ⊢
  dsimp only at h ⊢
  rw [← e5] at h
  have z4 := raw_err h
  have h4 := z4
  rw [← e4] at h4
  have z3 := raw_err h4
  have h3 := z3
  rw [← e3] at h3
  have z2 := num_err h3
  have h2 := z2
  rw [← e2] at h2
  have z1 := num_err h2
  have h1 := z1
  rw [← e1] at h1
  rw [z4] at h e5
  rw [z3] at h4 e4
  rw [z2] at h3 e3
  rw [z1] at h2 e2
  have t1 := num_told 1 l h1
  have t2 := num_told 4 _ h2
  have t3 := num_told 2 _ h3
  have t4 := raw_told _ h4
  have t5 := raw_told _ h
  rw [e1] at t1
  rw [e2] at t2
  rw [e3] at t3
  rw [e4] at t4
  rw [e5] at t5
  unfold leafL
  conv => lhs; rw [t1, t2, t3, t4, t5]
  simp only [List.append_assoc]
theorem hs_told : ∀ (k : Nat) (l : List UInt8) (e : Int), (hsR k l e).2.2 = 0 → l = catL (hsR k l e).1 ++ (hsR k l e).2.1
  | 0, l, e, h => rfl
  | k + 1, l, e, h => by
    have h1 : (Pk.rawR 32 (hsR k l e).2.1 (hsR k l e).2.2).2.2 = 0 := h
    have h2 := raw_err h1
    have ih := hs_told k l e h2
    rw [h2] at h1
    have t := raw_told _ h1
    show l = catL ((hsR k l e).1 ++ [Pk.btx (Pk.rawR 32 (hsR k l e).2.1 (hsR k l e).2.2).1]) ++ (Pk.rawR 32 (hsR k l e).2.1 (hsR k l e).2.2).2.1
    rw [h2]
    unfold catL at ih ⊢
    rw [List.flatMap_append, List.append_assoc]
    conv => lhs; rw [ih, t]
    simp
/-- What is read as a bill is its bytes. -/
theorem acc_told (l : List UInt8) (k : Nat) (h : acc (hdR l) k = true) : chkB (hdR l).v (hdR l).s (hdR l).c (hdR l).h (hdR l).t (hsR k (hdR l).l (hdR l).e).1 = true ∧ bytT (hdR l).v (hdR l).s (hdR l).c (hdR l).h (hdR l).t (hsR k (hdR l).l (hdR l).e).1 = ⟨l.toArray⟩ := by
  simp only [acc, Bool.and_eq_true, decide_eq_true_eq, end_zero] at h
  obtain ⟨⟨h1, h2⟩, h3⟩ := h
  have h4 := (hsR_ok k _ _ h2).1
  have t1 := hd_told l h4
  have t2 := hs_told k _ _ h2
  rw [h1, List.append_nil] at t2
  refine ⟨h3, ?_⟩
  rw [(bytT_yes h3).1, ← t2, ← t1]
end Go.Proofs.YthkfefkcjcgfkaaGreatDoor.Bi
