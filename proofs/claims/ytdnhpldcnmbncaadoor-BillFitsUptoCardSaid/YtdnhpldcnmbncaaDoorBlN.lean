/- Bills' bytes, on lists: what is laid is read, what is read is told. -/
import Derived.Test.YtdnhpldcnmbncaaDoorMBc
namespace Go.Proofs.YtdnhpldcnmbncaaDoor.Bi
open Go Go.RowKit Go.Proofs.YtdnhpldcnmbncaaDoor
set_option linter.all false

theorem numL_bound (k : Nat) (l : List UInt8) (h : l.length = k) : Pk.numL l < 256 ^ k := Pk.numL_lt k l h
theorem nb_acc (l : List UInt8) : ∀ a : Nat, l.foldl (fun n (x : UInt8) => n * 256 + x.toNat) a = a * 256 ^ l.length + Pk.numL l := by
  induction l with
  | nil => intro a; simp [Pk.numL]
  | cons x l ih =>
    intro a
    have h1 := ih (a * 256 + x.toNat)
    have h2 := ih (0 * 256 + x.toNat)
    show (x :: l).foldl _ a = a * 256 ^ (x :: l).length + (x :: l).foldl _ 0
    rw [List.foldl_cons, List.foldl_cons, h1, h2, List.length_cons, Nat.pow_succ, Nat.zero_mul, Nat.zero_add, Nat.add_mul]
    have e : a * 256 * 256 ^ l.length = a * (256 ^ l.length * 256) := by rw [Nat.mul_assoc, Nat.mul_comm 256]
    rw [e]; omega
theorem nb_cons (x : UInt8) (l : List UInt8) : Pk.numL (x :: l) = x.toNat * 256 ^ l.length + Pk.numL l := by
  have := nb_acc l x.toNat
  rw [Pk.numL, List.foldl_cons]
  simpa using this
theorem nb_beN (x : Nat) : ∀ k, Pk.numL (Pk.beN x k) = x % 256 ^ k
  | 0 => by simp [Pk.beN, Pk.numL, Nat.mod_one]
  | k + 1 => by
    have hp : 2 ^ (8 * k) = 256 ^ k := by rw [Nat.pow_mul]
    rw [Pk.beN, nb_cons, Pk.beN_length, nb_beN x k, UInt8.toNat_ofNat', hp]
    have h1 : x / 256 ^ k % 256 % 2 ^ 8 = x / 256 ^ k % 256 := Nat.mod_eq_of_lt (by omega)
    rw [h1, Nat.pow_succ, Nat.mod_mul]
    rw [Nat.mul_comm, Nat.add_comm]
theorem beN_mod (m : Nat) : ∀ k j, k ≤ j → Pk.beN (m % 256 ^ j) k = Pk.beN m k
  | 0, _, _ => rfl
  | k + 1, j, h => by
    have hp : 2 ^ (8 * k) = 256 ^ k := by rw [Nat.pow_mul]
    rw [Pk.beN, Pk.beN, beN_mod m k j (by omega), hp]
    congr 2
    have hj : 256 ^ j = 256 ^ k * (256 * 256 ^ (j - k - 1)) := by rw [← Nat.pow_succ', ← Nat.pow_add]; congr 1; omega
    rw [hj, Nat.mod_mul_right_div_self, Nat.mod_mul_right_mod]
theorem beN_nb : ∀ (k : Nat) (l : List UInt8), l.length = k → Pk.beN (Pk.numL l) k = l
  | 0, l, h => by obtain rfl := List.eq_nil_of_length_eq_zero h; rfl
  | k + 1, [], h => by cases h
  | k + 1, x :: l, h => by
    have hl : l.length = k := by simpa using h
    have hp : 2 ^ (8 * k) = 256 ^ k := by rw [Nat.pow_mul]
    have hb := Pk.numL_lt k l hl
    have h1 : Pk.numL (x :: l) / 256 ^ k = x.toNat := by
      rw [nb_cons, hl, Nat.mul_comm, Nat.mul_add_div (Nat.pow_pos (by decide)), Nat.div_eq_of_lt hb, Nat.add_zero]
    have h2 : Pk.numL (x :: l) % 256 ^ k = Pk.numL l := by
      rw [nb_cons, hl, Nat.mul_comm, Nat.mul_add_mod, Nat.mod_eq_of_lt hb]
    rw [Pk.beN, hp, h1, ← beN_mod _ k k (Nat.le_refl _), h2, beN_nb k l hl]
    congr 1
    have := x.toNat_lt
    rw [Nat.mod_eq_of_lt (by omega)]
    exact UInt8.ofNat_toNat
theorem fits_iff (n : Int) (k : Nat) : Pk.fits n k = true ↔ 0 ≤ n ∧ n.toNat < 256 ^ k := by
  have hp : (2 : Int) ^ (8 * k) = 256 ^ k := by rw [Int.pow_mul]; rfl
  unfold Pk.fits
  rw [decide_eq_true_iff, hp]
  constructor
  · rintro ⟨h0, h1⟩
    refine ⟨h0, ?_⟩
    obtain ⟨m, rfl⟩ : ∃ m : Nat, n = m := ⟨n.toNat, by omega⟩
    rw [Int.toNat_natCast]
    have h2 : ((m / 256 ^ k : Nat) : Int) = 0 := by rw [Int.natCast_ediv]; simpa using h1
    have h3 : m / 256 ^ k = 0 := by omega
    rcases Nat.lt_or_ge m (256 ^ k) with h | h
    · exact h
    · have := Nat.div_pos h (Nat.pos_of_ne_zero (by simp)); omega
  · rintro ⟨h0, h1⟩
    refine ⟨h0, ?_⟩
    obtain ⟨m, rfl⟩ : ∃ m : Nat, n = m := ⟨n.toNat, by omega⟩
    rw [Int.toNat_natCast] at h1
    have h2 : ((m / 256 ^ k : Nat) : Int) = 0 := by rw [Nat.div_eq_of_lt h1]; rfl
    rw [Int.natCast_ediv] at h2
    simpa using h2

theorem n2 : ¬ ((2 : Int) = 0) := by decide
theorem n3 : ¬ ((3 : Int) = 0) := by decide
theorem n0 : ¬ ((0 : Int) ≠ 0) := by decide
theorem n32 : ¬ ((32 : Int) < 0) := by decide
theorem num_err {k : Nat} {l : List UInt8} {e : Int} (h : (Pk.numR k l e).2.2 = 0) : e = 0 := by
  unfold Pk.numR at h
  split at h
  · exact h
  · next h0 => exact Classical.not_not.1 h0
theorem raw_err {l : List UInt8} {e : Int} (h : (Pk.rawR 32 l e).2.2 = 0) : e = 0 := by
  unfold Pk.rawR at h
  split at h
  · exact h
  · next h0 => exact Classical.not_not.1 h0
theorem num_told (k : Nat) (l : List UInt8) (he : (Pk.numR k l 0).2.2 = 0) : l = Pk.beN (Pk.numR k l 0).1.toNat k ++ (Pk.numR k l 0).2.1 := by
  by_cases h1 : l.length < k
  · rw [Pk.numR, if_neg n0, if_pos h1] at he; exact absurd he n2
  by_cases h2 : 9223372036854775807 < Pk.numL (l.take k)
  · rw [Pk.numR, if_neg n0, if_neg h1, if_pos h2] at he; exact absurd he n3
  rw [Pk.numR, if_neg n0, if_neg h1, if_neg h2]
  have hl : (l.take k).length = k := by rw [List.length_take]; omega
  show l = Pk.beN (Pk.numL (l.take k) : Int).toNat k ++ l.drop k
  rw [Int.toNat_natCast, beN_nb k _ hl, List.take_append_drop]
theorem num_back (k : Nat) (n : Int) (r : List UInt8) (hn : Pk.fits n k = true) (h2 : n ≤ 9223372036854775807) : Pk.numR k (Pk.beN n.toNat k ++ r) 0 = (n, r, 0) := by
  obtain ⟨h0, h1⟩ := (fits_iff n k).1 hn
  have ht : (Pk.beN n.toNat k ++ r).take k = Pk.beN n.toNat k := by rw [List.take_append_of_le_length (by rw [Pk.beN_length]; exact Nat.le_refl _), List.take_of_length_le (by rw [Pk.beN_length]; exact Nat.le_refl _)]
  have hd : (Pk.beN n.toNat k ++ r).drop k = r := by
    have := List.drop_left (l₁ := Pk.beN n.toNat k) (l₂ := r)
    rwa [Pk.beN_length] at this
  rw [Pk.numR, if_neg n0, if_neg (by rw [List.length_append, Pk.beN_length]; omega), ht, hd, nb_beN, Nat.mod_eq_of_lt h1, if_neg (by omega)]
  exact Prod.ext (Int.toNat_of_nonneg h0) rfl
theorem raw_told (l : List UInt8) (he : (Pk.rawR 32 l 0).2.2 = 0) : l = (Pk.btx (Pk.rawR 32 l 0).1).data.toList ++ (Pk.rawR 32 l 0).2.1 := by
  by_cases h1 : (l.length : Int) < 32
  · rw [Pk.rawR, if_neg n0, if_neg n32, if_pos h1] at he; exact absurd he n2
  rw [Pk.rawR, if_neg n0, if_neg n32, if_neg h1]
  show l = (Pk.btx (l.take 32)).data.toList ++ l.drop 32
  rw [Pk.mk_list, List.take_append_drop]
theorem raw_back (x : ByteArray) (r : List UInt8) (hx : x.size = 32) : Pk.rawR 32 (x.data.toList ++ r) 0 = (x.data.toList, r, 0) := by
  have hl : x.data.toList.length = 32 := by rw [Pk.data_len]; exact hx
  have ht : (x.data.toList ++ r).take 32 = x.data.toList := by rw [List.take_append_of_le_length (by omega), List.take_of_length_le (by omega)]
  have hd : (x.data.toList ++ r).drop 32 = r := by
    have := List.drop_left (l₁ := x.data.toList) (l₂ := r)
    rwa [hl] at this
  rw [Pk.rawR, if_neg (by decide), if_neg (by omega), if_neg (by rw [List.length_append, hl]; omega)]
  show ((x.data.toList ++ r).take 32, (x.data.toList ++ r).drop 32, (0 : Int)) = _
  rw [ht, hd]
theorem hd_told (l : List UInt8) (h : (hdR l).e = 0) : l = leafL (hdR l).v (hdR l).s (hdR l).c (hdR l).h (hdR l).t ++ (hdR l).l := by
  obtain ⟨X1, X2, X3, X4, X5, e1, e2, e3, e4, e5, e6⟩ := hd_steps l
  rw [e6] at h ⊢
  dsimp only at h ⊢
  rw [← e5] at h
  have z4 := raw_err h
  have h4 := z4
  rw [← e4] at h4
  have z3 := raw_err h4
  have h3 := z3
  rw [← e3] at h3
  have z2 := num_err h3
  have h2 := z2
  rw [← e2] at h2
  have z1 := num_err h2
  have h1 := z1
  rw [← e1] at h1
  rw [z4] at h e5
  rw [z3] at h4 e4
  rw [z2] at h3 e3
  rw [z1] at h2 e2
  have t1 := num_told 1 l h1
  have t2 := num_told 4 _ h2
  have t3 := num_told 2 _ h3
  have t4 := raw_told _ h4
  have t5 := raw_told _ h
  rw [e1] at t1
  rw [e2] at t2
  rw [e3] at t3
  rw [e4] at t4
  rw [e5] at t5
  unfold leafL
  conv => lhs; rw [t1, t2, t3, t4, t5]
  simp only [List.append_assoc]
theorem hd_back (v s c : Int) (h t : ByteArray) (r : List UInt8) (f1 : Pk.fits v 1 = true) (f2 : Pk.fits s 4 = true) (f3 : Pk.fits c 2 = true) (b1 : v ≤ 9223372036854775807) (b2 : s ≤ 9223372036854775807) (b3 : c ≤ 9223372036854775807) (hh : h.size = 32) (ht : t.size = 32) :
    hdR (leafL v s c h t ++ r) = ⟨v, s, c, h, t, r, 0⟩ := by
  obtain ⟨X1, X2, X3, X4, X5, e1, e2, e3, e4, e5, e6⟩ := hd_steps (leafL v s c h t ++ r)
  rw [e6]
  have hl : leafL v s c h t ++ r = Pk.beN v.toNat 1 ++ (Pk.beN s.toNat 4 ++ (Pk.beN c.toNat 2 ++ (h.data.toList ++ (t.data.toList ++ r)))) := by unfold leafL; simp only [List.append_assoc]
  rw [hl, num_back 1 v _ f1 b1] at e1
  subst e1
  rw [num_back 4 s _ f2 b2] at e2
  subst e2
  rw [num_back 2 c _ f3 b3] at e3
  subst e3
  rw [raw_back h _ hh] at e4
  subst e4
  rw [raw_back t _ ht] at e5
  subst e5
  rfl
theorem hs_told : ∀ (k : Nat) (l : List UInt8) (e : Int), (hsR k l e).2.2 = 0 → l = catL (hsR k l e).1 ++ (hsR k l e).2.1
  | 0, l, e, h => rfl
  | k + 1, l, e, h => by
    have h1 : (Pk.rawR 32 (hsR k l e).2.1 (hsR k l e).2.2).2.2 = 0 := h
    have h2 := raw_err h1
    have ih := hs_told k l e h2
    rw [h2] at h1
    have t := raw_told _ h1
    show l = catL ((hsR k l e).1 ++ [Pk.btx (Pk.rawR 32 (hsR k l e).2.1 (hsR k l e).2.2).1]) ++ (Pk.rawR 32 (hsR k l e).2.1 (hsR k l e).2.2).2.1
    rw [h2]
    unfold catL at ih ⊢
    rw [List.flatMap_append, List.append_assoc]
    conv => lhs; rw [ih, t]
    simp
theorem hs_back (P : List ByteArray) (h : ∀ x ∈ P, x.size = 32) : ∀ k, k ≤ P.length → hsR k (catL P) 0 = (P.take k, catL (P.drop k), 0)
  | 0, _ => rfl
  | k + 1, hk => by
    have ih := hs_back P h k (by omega)
    have hd := List.drop_eq_getElem_cons (show k < P.length by omega)
    have hx := h (P[k]'(by omega)) (List.getElem_mem _)
    rw [hsR, ih]
    dsimp only
    unfold catL
    rw [hd, List.flatMap_cons, raw_back _ _ hx, List.take_succ_eq_append_getElem (show k < P.length by omega)]
    rfl
/-- What is read as a bill is its bytes. -/
theorem acc_told (l : List UInt8) (k : Nat) (h : acc (hdR l) k = true) : chkB (hdR l).v (hdR l).s (hdR l).c (hdR l).h (hdR l).t (hsR k (hdR l).l (hdR l).e).1 = true ∧ bytT (hdR l).v (hdR l).s (hdR l).c (hdR l).h (hdR l).t (hsR k (hdR l).l (hdR l).e).1 = ⟨l.toArray⟩ := by
  simp only [acc, Bool.and_eq_true, decide_eq_true_eq, end_zero] at h
  obtain ⟨⟨h1, h2⟩, h3⟩ := h
  have h4 := (hsR_ok k _ _ h2).1
  have t1 := hd_told l h4
  have t2 := hs_told k _ _ h2
  rw [h1, List.append_nil] at t2
  refine ⟨h3, ?_⟩
  rw [(bytT_yes h3).1, ← t2, ← t1]
/-- A good bill's bytes are read as it. -/
theorem acc_back {v s c : Int} {h t : ByteArray} {L : List ByteArray} (hc : chkB v s c h t L = true) :
    hdR (leafL v s c h t ++ catL L) = ⟨v, s, c, h, t, catL L, 0⟩ ∧ kP ⟨v, s, c, h, t, catL L, 0⟩ = L.length ∧ (hsR L.length (catL L) 0).1 = L ∧ acc ⟨v, s, c, h, t, catL L, 0⟩ L.length = true := by
  obtain ⟨f1, f2, f3⟩ := chk_fits hc
  obtain ⟨g1, g2⟩ := chk_32 hc
  obtain ⟨n1, n2, _⟩ := num_sz (chk_num hc)
  obtain ⟨s1, s2, c1, c2⟩ := chk_sz hc
  obtain ⟨hall, hl128⟩ := chk_all hc
  have hb := hs_back L hall L.length (Nat.le_refl _)
  rw [List.take_length, List.drop_length] at hb
  have hlen : (catL L).length = 32 * L.length := by
    have := (hsR_ok L.length (catL L) 0 (by rw [hb])).2
    rw [hb] at this
    have h2 := congrArg List.length this.2
    simp [catL] at h2
    have h3 := this.1
    have h4 := catL_len L hall L.length
    rw [List.take_length] at h4
    omega
  refine ⟨hd_back v s c h t _ f1 f2 f3 (by omega) (by omega) (by omega) g1 g2, ?_, by rw [hb], ?_⟩
  · unfold kP
    dsimp only
    by_cases h0 : L.length = 0
    · rw [if_neg (by omega)]; exact h0.symm
    · rw [if_pos (by omega)]
      have h5 := (chk_len hc h0).1
      have h6 := (cn_yes hc).1
      omega
  · unfold acc
    dsimp only
    rw [hb]
    dsimp only
    rw [hc]
    rfl
end Go.Proofs.YtdnhpldcnmbncaaDoor.Bi
