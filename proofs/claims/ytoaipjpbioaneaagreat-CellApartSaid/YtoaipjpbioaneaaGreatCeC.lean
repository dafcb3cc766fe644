/- A text laid over sectors; what a commit does to a device, and what a crash leaves of it: on lists. -/
import Derived.Test.YtoaipjpbioaneaaGreatCeM
namespace Go.Proofs.YtoaipjpbioaneaaGreat
/-! ### A text laid over sectors -/
/-- A text in pieces of 64 bytes. -/
def cut : Nat → Bs → List Bs
  | 0, _ => []
  | f + 1, t => if t = [] then [] else t.take 64 :: cut f (t.drop 64)
theorem cut_nil (f : Nat) : cut f [] = [] := by cases f <;> rfl
theorem cut_le : ∀ (f : Nat) (t : Bs), ∀ x ∈ cut f t, x.length ≤ 64
  | 0, _, x, h => by cases h
  | f + 1, t, x, h => by
    unfold cut at h
    split at h
    · cases h
    · rcases List.mem_cons.1 h with rfl | h
      · rw [List.length_take]; omega
      · exact cut_le f _ x h
theorem cut_len : ∀ (f : Nat) (t : Bs), t.length ≤ 64 * f → 64 * (cut f t).length < t.length + 64
  | 0, t, h => by simp [cut]
  | f + 1, t, h => by
    unfold cut
    split
    · simp
    · next hne =>
      have h0 : 0 < t.length := List.length_pos_iff.2 hne
      have := cut_len f (t.drop 64) (by rw [List.length_drop]; omega)
      rw [List.length_drop] at this
      rw [List.length_cons]
      rcases Nat.lt_or_ge 64 t.length with h1 | h1
      · omega
      · have e : t.drop 64 = [] := List.drop_of_length_le (by omega)
        rw [e, cut_nil]; simp; omega
theorem cut_flat : ∀ (f : Nat) (t : Bs), t.length ≤ 64 * f → (((cut f t).map padS).flatten).take t.length = t
  | 0, t, h => by
    have : t = [] := List.eq_nil_of_length_eq_zero (by omega)
    subst this; rfl
  | f + 1, t, h => by
    unfold cut
    split
    · next he => subst he; rfl
    · next hne =>
      have h0 : 0 < t.length := List.length_pos_iff.2 hne
      rw [List.map_cons, List.flatten_cons]
      rcases Nat.lt_or_ge 64 t.length with h1 | h1
      · have e : padS (t.take 64) = t.take 64 := by unfold padS; rw [List.length_take, Nat.min_eq_left (by omega)]; simp
        have ih := cut_flat f (t.drop 64) (by rw [List.length_drop]; omega)
        rw [e, List.take_append, List.length_take, Nat.min_eq_left (by omega), List.take_take, Nat.min_eq_right (by omega)]
        rw [List.length_drop] at ih
        rw [ih, List.take_append_drop]
      · have e : t.drop 64 = [] := List.drop_of_length_le (by omega)
        have e2 : t.take 64 = t := List.take_of_length_le (by omega)
        rw [e, cut_nil, e2]
        simp only [List.map_nil, List.flatten_nil, List.append_nil]
        unfold padS
        rw [List.take_append_of_le_length (Nat.le_refl _), List.take_of_length_le (Nat.le_refl _)]
theorem cut_flat_len (f : Nat) (t : Bs) (h : t.length ≤ 64 * f) : t.length ≤ (((cut f t).map padS).flatten).length := by
  have := congrArg List.length (cut_flat f t h)
  rw [List.length_take] at this; omega
/-- The writes of a text's pieces from the sector n on. -/
def wr : Nat → List Bs → List WrD
  | _, [] => []
  | n, t :: r => (n, padS t) :: wr (n + 1) r
theorem wr_length : ∀ (n : Nat) (l : List Bs), (wr n l).length = l.length
  | _, [] => rfl
  | n, t :: r => by simp [wr, wr_length (n + 1) r]
theorem wr_mem : ∀ (n : Nat) (l : List Bs) (x : WrD), x ∈ wr n l → n ≤ x.1 ∧ x.1 < n + l.length ∧ ∃ t ∈ l, x.2 = padS t
  | _, [], x, h => by cases h
  | n, t :: r, x, h => by
    rcases List.mem_cons.1 h with rfl | h
    · exact ⟨Nat.le_refl _, by simp, t, by simp, rfl⟩
    · obtain ⟨h1, h2, u, h3, h4⟩ := wr_mem (n + 1) r x h
      exact ⟨by omega, by simp; omega, u, by simp [h3], h4⟩
theorem runW_out : ∀ (ws : List WrD) (S : List Sec) (i : Nat), (∀ x ∈ ws, x.1 ≠ i) → (runW S ws)[i]? = S[i]?
  | [], S, i, _ => rfl
  | x :: ws, S, i, h => by
    show (runW (S.set x.1 x.2) ws)[i]? = _
    rw [runW_out ws _ i fun y hy => h y (by simp [hy]), List.getElem?_set, if_neg (h x (by simp))]
theorem runW_wr : ∀ (l : List Bs) (S : List Sec) (n i : Nat), n + l.length ≤ S.length → i < l.length → (runW S (wr n l))[n + i]? = (l[i]?).map padS
  | [], S, n, i, _, h => by simp at h
  | t :: r, S, n, i, hS, h => by
    show (runW (S.set n (padS t)) (wr (n + 1) r))[n + i]? = _
    have hl : (t :: r).length = r.length + 1 := by simp
    rw [hl] at hS h
    cases i with
    | zero =>
      rw [runW_out _ _ _ (fun x hx => by have := (wr_mem _ _ _ hx).1; omega), Nat.add_zero, List.getElem?_set, if_pos rfl, if_pos (by omega)]; rfl
    | succ i =>
      have := runW_wr r (S.set n (padS t)) (n + 1) i (by rw [List.length_set]; omega) (by omega)
      rw [show n + (i + 1) = n + 1 + i by omega, this]; rfl
theorem settleN_out (keep : List Int) (S : List Sec) (ws : List WrD) (i : Nat) (h : ∀ x ∈ ws, x.1 ≠ i) : ∀ k, (settleN keep S ws k)[i]? = S[i]?
  | 0 => rfl
  | k + 1 => by
    unfold settleN
    split
    · next x hx =>
      unfold lay1
      rw [List.getElem?_set, if_neg (h x (List.mem_of_getElem? hx)), settleN_out keep S ws i h k]
    · exact settleN_out keep S ws i h k
theorem settle_one (keep : List Int) (S : List Sec) (n : Nat) (t : Sec) (hn : n < S.length) : (settle keep S [(n, t)])[n]? = some (tear (keepAt keep 0) t (S.getD n zeroS)) := by
  show (lay1 keep 0 S (n, t))[n]? = _
  unfold lay1
  rw [List.getElem?_set, if_pos rfl, if_pos hn]
theorem settle_none (keep : List Int) (S : List Sec) : settle keep S [] = S := rfl
/-- What the writes of a text leave is read as the text. -/
theorem body_back (S : List Sec) (n k f : Nat) (t : Bs) (hf : t.length ≤ 64 * f) (hk : (cut f t).length ≤ k) (h : ∀ i, i < (cut f t).length → S[n + i]? = ((cut f t)[i]?).map padS) : (bodyS S n k).take t.length = t := by
  obtain ⟨j, rfl⟩ : ∃ j, k = (cut f t).length + j := ⟨k - (cut f t).length, by omega⟩
  have e : (S.drop n).take (cut f t).length = (cut f t).map padS := by
    apply List.ext_getElem?
    intro i
    rw [List.getElem?_take, List.getElem?_drop, List.getElem?_map]
    split
    · next hi => exact h i hi
    · next hi => rw [List.getElem?_eq_none (by omega)]; rfl
  unfold bodyS
  rw [List.take_add, List.flatten_append, e, List.take_append_of_le_length (cut_flat_len f t hf), cut_flat f t hf]

/-! ### What a commit does to a device -/
/-- Pieces are written, one sector each, and made sure of. -/
def layM : List Bs → Dev → Nat → Int × Dev
  | [], D, _ => (D.barrierE, D.barrier)
  | t :: r, D, n => if D.writeE n t = 0 then layM r (D.write n t) (n + 1) else (D.writeE n t, D.write n t)
def zeros : Bs := List.replicate 64 0
def commitM (D : Dev) (at_ : Nat) (h : Bs) (l : List Bs) : Int × Dev :=
  if (layM [zeros] D at_).1 = 0 then
    if (layM l (layM [zeros] D at_).2 (at_ + 1)).1 = 0 then layM [h] (layM l (layM [zeros] D at_).2 (at_ + 1)).2 at_ else layM l (layM [zeros] D at_).2 (at_ + 1)
  else layM [zeros] D at_
theorem refused_in {D : Dev} {n : Nat} (ho : D.off = false) (hn : n < D.safe.length) : D.refused n = 0 := by
  unfold Dev.refused
  rw [ho, if_neg (by simp), if_neg (by omega)]
theorem write_goes {D : Dev} {n : Nat} {t : Bs} (ho : D.off = false) (hn : n < D.safe.length) (ht : t.length ≤ 64) (hg : D.fall ≠ 1) :
    D.writeE n t = 0 ∧ D.write n t = { D with fall := D.fall - 1, taken := D.taken + 1, ws := D.ws ++ [(n, padS t)] } := by
  have hr := refused_in ho hn
  have hgo : D.goes = true := by simp [Dev.goes, hg]
  have h64 : ¬ 64 < t.length := by omega
  unfold Dev.writeE Dev.write
  simp only [hr, hgo, h64, ne_eq, not_true, if_false, if_true]
  refine ⟨trivial, ?_⟩
  unfold Dev.stepD
  simp only [hg, if_false, Int.toNat_natCast]
theorem write_stops {D : Dev} {n : Nat} {t : Bs} (ho : D.off = false) (hn : n < D.safe.length) (ht : t.length ≤ 64) (hg : D.fall = 1) :
    D.writeE n t = 7 ∧ D.write n t = { D with fall := 0, off := true } := by
  have hr := refused_in ho hn
  have hgo : D.goes = false := by simp [Dev.goes, hg]
  have h64 : ¬ 64 < t.length := by omega
  unfold Dev.writeE Dev.write
  simp only [hr, hgo, h64, ne_eq, not_true, if_false, Bool.false_eq_true]
  refine ⟨trivial, ?_⟩
  unfold Dev.stepD
  simp only [hg, if_true]
theorem barrier_goes {D : Dev} (ho : D.off = false) (hg : D.fall ≠ 1) : D.barrierE = 0 ∧ D.barrier = { D with fall := D.fall - 1, taken := D.taken + 1, safe := D.seen, ws := [] } := by
  have hgo : D.goes = true := by simp [Dev.goes, hg]
  unfold Dev.barrierE Dev.barrier
  simp only [ho, hgo, if_true, Bool.false_eq_true, if_false]
  refine ⟨trivial, ?_⟩
  unfold Dev.stepD
  simp only [hg, if_false, ho]
theorem barrier_stops {D : Dev} (ho : D.off = false) (hg : D.fall = 1) : D.barrierE = 7 ∧ D.barrier = { D with fall := 0, off := true } := by
  have hgo : D.goes = false := by simp [Dev.goes, hg]
  unfold Dev.barrierE Dev.barrier
  simp only [ho, hgo, Bool.false_eq_true, if_false]
  refine ⟨trivial, ?_⟩
  unfold Dev.stepD
  simp only [hg, if_true]
/-- What pieces leave: all of them, safe; or the power has gone, and some first ones are pending. -/
structure Laid1 (D D' : Dev) (n : Nat) (l : List Bs) : Prop where
  off : D'.off = false
  ws : D'.ws = []
  safe : D'.safe = runW D.safe (D.ws ++ wr n l)
  taken : D'.taken ≤ D.taken + l.length + 1
  fall : D'.fall ≤ D.fall
structure Fell (D D' : Dev) (n : Nat) (l : List Bs) : Prop where
  off : D'.off = true
  safe : D'.safe = D.safe
  ws : ∃ m, m ≤ l.length ∧ D'.ws = D.ws ++ (wr n l).take m
  taken : D'.taken ≤ D.taken + l.length + 1
  fall : D'.fall ≤ D.fall
theorem layM_cases : ∀ (l : List Bs) (D : Dev) (n : Nat), D.off = false → n + l.length ≤ D.safe.length → (∀ t ∈ l, t.length ≤ 64) →
    ((layM l D n).1 = 0 ∧ Laid1 D (layM l D n).2 n l) ∨ ((layM l D n).1 = 7 ∧ Fell D (layM l D n).2 n l)
  | [], D, n, ho, _, _ => by
    unfold layM
    by_cases hg : D.fall = 1
    · obtain ⟨h1, h2⟩ := barrier_stops ho hg
      rw [h1, h2]
      exact .inr ⟨rfl, rfl, rfl, ⟨0, Nat.le_refl _, by simp⟩, by simp, by simp⟩
    · obtain ⟨h1, h2⟩ := barrier_goes ho hg
      rw [h1, h2]
      exact .inl ⟨rfl, ho, rfl, by simp [wr, Dev.seen], by simp, by simp⟩
  | t :: r, D, n, ho, hn, ht => by
    have hl : (t :: r).length = r.length + 1 := by simp
    rw [hl] at hn
    have h64 := ht t (by simp)
    unfold layM
    by_cases hg : D.fall = 1
    · obtain ⟨h1, h2⟩ := write_stops (n := n) (t := t) ho (by omega) h64 hg
      rw [h1, h2, if_neg (by decide)]
      exact .inr ⟨rfl, rfl, rfl, ⟨0, Nat.zero_le _, by simp⟩, by simp; omega, by simp⟩
    · obtain ⟨h1, h2⟩ := write_goes (n := n) (t := t) ho (by omega) h64 hg
      rw [h1, if_pos rfl]
      have ih := layM_cases r (D.write n t) (n + 1) (by rw [h2]; exact ho) (by rw [h2]; show n + 1 + r.length ≤ D.safe.length; omega) (fun u hu => ht u (by simp [hu]))
      rcases ih with ⟨e1, e2⟩ | ⟨e1, e2⟩
      · refine .inl ⟨e1, e2.off, e2.ws, ?_, ?_, ?_⟩
        · rw [e2.safe, h2]; simp [wr]
        · have h3 := e2.taken
          have h4 : (D.write n t).taken = D.taken + 1 := by rw [h2]
          rw [hl]; omega
        · have h3 := e2.fall
          have h4 : (D.write n t).fall = D.fall - 1 := by rw [h2]
          omega
      · refine .inr ⟨e1, e2.off, ?_, ?_, ?_, ?_⟩
        · rw [e2.safe, h2]
        · obtain ⟨m, hm, e3⟩ := e2.ws
          exact ⟨m + 1, by rw [hl]; omega, by rw [e3, h2]; simp [wr]⟩
        · have h3 := e2.taken
          have h4 : (D.write n t).taken = D.taken + 1 := by rw [h2]
          rw [hl]; omega
        · have h3 := e2.fall
          have h4 : (D.write n t).fall = D.fall - 1 := by rw [h2]
          omega
theorem layM_ok : ∀ (l : List Bs) (D : Dev) (n : Nat), D.ok → (layM l D n).2.ok
  | [], D, _, h => h.barrier
  | t :: r, D, n, h => by
    unfold layM
    split
    · exact layM_ok r _ _ (h.write _ _)
    · exact h.write _ _
theorem commitM_ok (D : Dev) (at_ : Nat) (h : Bs) (l : List Bs) (hD : D.ok) : (commitM D at_ h l).2.ok := by
  unfold commitM
  split
  · split
    · exact layM_ok _ _ _ (layM_ok _ _ _ (layM_ok _ _ _ hD))
    · exact layM_ok _ _ _ (layM_ok _ _ _ hD)
  · exact layM_ok _ _ _ hD
/-! ### A region, and a commit that the power may cut off -/
structure Region (S : List Sec) (base half num : Nat) (c : Ct) (last : Nat) : Prop where
  fit : base + 2 * half ≤ S.length
  half2 : 2 ≤ half
  last1 : last ≤ 1
  few : num ≤ 1000000
  cur : readM S (base + last * half) half = if num = 0 then none else some (num, c)
  old : ∀ x, readM S (base + (1 - last) * half) half = some x → x.1 < num
  part : Part (S.getD (base + (1 - last) * half) zeroS)
  part2 : Part (S.getD (base + last * half) zeroS)
  zero : num = 0 → last = 1 ∧ c = []
/-- What Open finds: number, content, the copy of the last commit. -/
def openM (S : List Sec) (base half : Nat) : Nat × Option Ct × Nat :=
  match readM S base half with
  | some (n, c) => match readM S (base + half) half with
    | some (m, d) => if m ≤ n then (n, some c, 0) else (m, some d, 1)
    | none => (n, some c, 0)
  | none => match readM S (base + half) half with
    | some (m, d) => (m, some d, 1)
    | none => (0, none, 1)
theorem Region.opens {S : List Sec} {base half num : Nat} {c : Ct} {last : Nat} (h : Region S base half num c last) : openM S base half = (num, if num = 0 then none else some c, last) := by
  have hl := h.last1
  have hc := h.cur
  have ho := h.old
  unfold openM
  rcases (show last = 0 ∨ last = 1 by omega) with rfl | rfl
  · simp only [Nat.zero_mul, Nat.add_zero, Nat.sub_zero, Nat.one_mul] at hc ho
    have h0 : num ≠ 0 := fun e => by have := (h.zero e).1; omega
    rw [if_neg h0] at hc ⊢
    rw [hc]
    simp only
    cases hx : readM S (base + half) half with
    | none => rfl
    | some x =>
      have := ho x hx
      obtain ⟨m, d⟩ := x
      simp only at this ⊢
      rw [if_pos (by omega)]
  · simp only [Nat.zero_mul, Nat.add_zero, Nat.sub_self, Nat.one_mul] at hc ho
    rw [hc]
    cases hx : readM S base half with
    | none => by_cases h0 : num = 0 <;> simp [h0]
    | some x =>
      have := ho x hx
      obtain ⟨m, d⟩ := x
      simp only at this
      have h0 : num ≠ 0 := by omega
      simp [h0]; exact this
theorem Region.new (S : List Sec) (base half : Nat) (hf : base + 2 * half ≤ S.length) (h2 : 2 ≤ half) (hz : ∀ i, S.getD i zeroS = zeroS) : Region S base half 0 [] 1 :=
  ⟨hf, h2, Nat.le_refl _, Nat.zero_le _, by rw [if_pos rfl]; exact readM_zero (hz _), (fun x hx => by rw [readM_zero (hz _)] at hx; cases hx), (by rw [hz]; exact Part.zero), (by rw [hz]; exact Part.zero), fun _ => ⟨rfl, rfl⟩⟩
theorem getD_of (S S' : List Sec) (n : Nat) (h : S'[n]? = S[n]?) : S'.getD n zeroS = S.getD n zeroS := by
  rw [List.getD_eq_getElem?_getD, List.getD_eq_getElem?_getD, h]
theorem getD_some {S : List Sec} {n : Nat} {s : Sec} (h : S[n]? = some s) : S.getD n zeroS = s := by
  rw [List.getD_eq_getElem?_getD, h]; rfl
/-- Sectors beyond the region don't matter. -/
theorem Region.congr {S S' : List Sec} {base half num : Nat} {c : Ct} {last : Nat} (h : Region S base half num c last) (hl : S'.length = S.length) (he : ∀ i, base ≤ i → i < base + 2 * half → S'[i]? = S[i]?) : Region S' base half num c last := by
  have h1 := h.last1
  have h2 := h.half2
  have b1 : last * half ≤ half := by rcases (show last = 0 ∨ last = 1 by omega) with rfl | rfl <;> omega
  have b2 : (1 - last) * half ≤ half := by rcases (show last = 0 ∨ last = 1 by omega) with rfl | rfl <;> omega
  have e1 : readM S' (base + last * half) half = readM S (base + last * half) half := readM_congr (fun i hi hj => he i (by omega) (by omega)) (by omega)
  have e2 : readM S' (base + (1 - last) * half) half = readM S (base + (1 - last) * half) half := readM_congr (fun i hi hj => he i (by omega) (by omega)) (by omega)
  exact ⟨by rw [hl]; exact h.fit, h2, h1, h.few, by rw [e1]; exact h.cur, by rw [e2]; exact h.old, by rw [getD_of S S' _ (he _ (by omega) (by omega))]; exact h.part, by rw [getD_of S S' _ (he _ (by omega) (by omega))]; exact h.part2, h.zero⟩
/-- The other copy was touched: its header is a part of one, and it has no great number. -/
theorem Region.touch {S S' : List Sec} {base half num : Nat} {c : Ct} {last : Nat} (h : Region S base half num c last) (hl : S'.length = S.length)
    (he : ∀ i, i < base + (1 - last) * half ∨ base + (1 - last) * half + half ≤ i → S'[i]? = S[i]?) (hp : Part (S'.getD (base + (1 - last) * half) zeroS)) (ho : ∀ x, readM S' (base + (1 - last) * half) half = some x → x.1 < num) : Region S' base half num c last := by
  have h1 := h.last1
  have h2 := h.half2
  have far : ∀ i, base + last * half ≤ i → i < base + last * half + half → S'[i]? = S[i]? := fun i hi hj => he i (by
    rcases (show last = 0 ∨ last = 1 by omega) with rfl | rfl
    · simp only [Nat.zero_mul, Nat.sub_zero, Nat.one_mul, Nat.add_zero] at *; omega
    · simp only [Nat.zero_mul, Nat.sub_self, Nat.one_mul, Nat.add_zero] at *; omega)
  have e1 : readM S' (base + last * half) half = readM S (base + last * half) half := readM_congr far (by omega)
  exact ⟨by rw [hl]; exact h.fit, h2, h1, h.few, by rw [e1]; exact h.cur, ho, hp, by rw [getD_of S S' _ (far _ (Nat.le_refl _) (by omega))]; exact h.part2, h.zero⟩
/-- The other copy is whole, with the next number. -/
theorem Region.turn {S S' : List Sec} {base half num : Nat} {c d : Ct} {last : Nat} (h : Region S base half num c last) (hl : S'.length = S.length) (hn : num < 1000000)
    (he : ∀ i, i < base + (1 - last) * half ∨ base + (1 - last) * half + half ≤ i → S'[i]? = S[i]?) (hp : Part (S'.getD (base + (1 - last) * half) zeroS)) (ho : readM S' (base + (1 - last) * half) half = some (num + 1, d)) : Region S' base half (num + 1) d (1 - last) := by
  have h1 := h.last1
  have h2 := h.half2
  have far : ∀ i, base + last * half ≤ i → i < base + last * half + half → S'[i]? = S[i]? := fun i hi hj => he i (by
    rcases (show last = 0 ∨ last = 1 by omega) with rfl | rfl
    · simp only [Nat.zero_mul, Nat.sub_zero, Nat.one_mul, Nat.add_zero] at *; omega
    · simp only [Nat.zero_mul, Nat.sub_self, Nat.one_mul, Nat.add_zero] at *; omega)
  have e1 : readM S' (base + last * half) half = readM S (base + last * half) half := readM_congr far (by omega)
  have hll : 1 - (1 - last) = last := by omega
  refine ⟨by rw [hl]; exact h.fit, h2, by omega, by omega, by rw [if_neg (by omega)]; exact ho, fun x hx => ?_, ?_, hp, fun e => by omega⟩
  · rw [hll, e1, h.cur] at hx
    split at hx
    · cases hx
    · cases hx; exact Nat.lt_succ_self _
  · rw [hll, getD_of S S' _ (far _ (Nat.le_refl _) (by omega))]; exact h.part2

/-- What a device is between a cell's calls. -/
structure Calm (D : Dev) : Prop where
  ok : D.ok
  off : D.off = false
  ws : D.ws = []
/-- Which copy comes next, and the two texts of a commit. -/
def toC (base half last : Nat) : Nat := base + (1 - last) * half
def pieces (d : Ct) : List Bs := cut (bytesC d).length (bytesC d)
theorem pieces_le (d : Ct) : ∀ t ∈ pieces d, t.length ≤ 64 := cut_le _ _
theorem pieces_len (d : Ct) (half : Nat) (h : (bytesC d).length ≤ 64 * (half - 1)) : (pieces d).length ≤ half - 1 := by
  have := cut_len (bytesC d).length (bytesC d) (by omega)
  unfold pieces; omega
theorem seen_calm {D : Dev} (h : Calm D) : D.seen = D.safe := by unfold Dev.seen; rw [h.ws]; rfl
theorem runW_one (S : List Sec) (n : Nat) (t : Sec) (hn : n < S.length) : (runW S [(n, t)])[n]? = some t := by
  show (S.set n t)[n]? = _
  rw [List.getElem?_set, if_pos rfl, if_pos hn]
theorem runW_one_out (S : List Sec) (n i : Nat) (t : Sec) (hi : i ≠ n) : (runW S [(n, t)])[i]? = S[i]? := runW_out _ _ _ fun x hx => by
  obtain rfl : x = (n, t) := by simpa using hx
  exact fun e => hi e.symm
theorem padS_zeros : padS zeros = zeroS := by decide +kernel
theorem wr_zeros (n : Nat) : wr n [zeros] = [(n, zeroS)] := by simp [wr, padS_zeros]
theorem take_one {α : Type} (x : α) (m : Nat) : [x].take m = [] ∨ [x].take m = [x] := by
  cases m with
  | zero => exact .inl rfl
  | succ m => exact .inr (by simp)
/-- How a commit ends, and what a crash then leaves. -/
structure After (D D' : Dev) (base half num : Nat) (c d : Ct) (last : Nat) : Prop where
  ok : D'.ok
  len : D'.safe.length = D.safe.length
  taken : D'.taken ≤ D.taken + half + 5
  fall : D'.fall ≤ D.fall
  wsl : D'.ws.length ≤ half + 5
  crash : ∀ keep, (D'.crash keep).safe.length = D.safe.length ∧ (Region (D'.crash keep).safe base half num c last ∨ Region (D'.crash keep).safe base half (num + 1) d (1 - last))
structure Done (D D' : Dev) (base half num : Nat) (d : Ct) (last : Nat) : Prop where
  calm : Calm D'
  len : D'.safe.length = D.safe.length
  taken : D'.taken ≤ D.taken + half + 5
  fall : D'.fall ≤ D.fall
  region : Region D'.safe base half (num + 1) d (1 - last)
  out : ∀ i, i < base ∨ base + 2 * half ≤ i → D'.safe[i]? = D.safe[i]?
theorem toC_in {base half last : Nat} (h : last ≤ 1) (h2 : 2 ≤ half) : base ≤ toC base half last ∧ toC base half last + half ≤ base + 2 * half := by
  unfold toC
  rcases (show last = 0 ∨ last = 1 by omega) with rfl | rfl
  · simp only [Nat.sub_zero, Nat.one_mul]; omega
  · simp only [Nat.sub_self, Nat.zero_mul]; omega
theorem commit_cases {D : Dev} {base half num : Nat} {c d : Ct} {last : Nat} (hD : Calm D) (hR : Region D.safe base half num c last) (hd : d.ok) (hn : num < 1000000) (hl : (bytesC d).length ≤ 64 * (half - 1)) :
    ((commitM D (toC base half last) (hdr (num + 1) (bytesC d).length) (pieces d)).1 = 0 ∧ Done D (commitM D (toC base half last) (hdr (num + 1) (bytesC d).length) (pieces d)).2 base half num d last) ∨
    ((commitM D (toC base half last) (hdr (num + 1) (bytesC d).length) (pieces d)).1 = 7 ∧ (commitM D (toC base half last) (hdr (num + 1) (bytesC d).length) (pieces d)).2.off = true ∧ After D (commitM D (toC base half last) (hdr (num + 1) (bytesC d).length) (pieces d)).2 base half num c d last) := by
  have hokall := commitM_ok D (toC base half last) (hdr (num + 1) (bytesC d).length) (pieces d) hD.ok
  have h1 := hR.last1
  have h2 := hR.half2
  have hfit := hR.fit
  obtain ⟨hi1, hi2⟩ := toC_in (base := base) h1 h2
  have hpart : Part (D.safe.getD (toC base half last) zeroS) := hR.part
  have hold : ∀ x, readM D.safe (toC base half last) half = some x → x.1 < num := hR.old
  have hpl := pieces_len d half hl
  have hbl := (bytesC_le hd).2
  have p4 : (256 : Nat) ^ 4 = 4294967296 := by decide
  have p8 : (256 : Nat) ^ 8 = 18446744073709551616 := by decide
  have touch : ∀ S', S'.length = D.safe.length → (∀ i, i < toC base half last ∨ toC base half last + half ≤ i → S'[i]? = D.safe[i]?) → Part (S'.getD (toC base half last) zeroS) → (∀ x, readM S' (toC base half last) half = some x → x.1 < num) → Region S' base half num c last := fun S' e1 e2 e3 e4 => hR.touch e1 e2 e3 e4
  have turn : ∀ S', S'.length = D.safe.length → (∀ i, i < toC base half last ∨ toC base half last + half ≤ i → S'[i]? = D.safe[i]?) → Part (S'.getD (toC base half last) zeroS) → readM S' (toC base half last) half = some (num + 1, d) → Region S' base half (num + 1) d (1 - last) := fun S' e1 e2 e3 e4 => hR.turn e1 hn e2 e3 e4
  generalize toC base half last = a at *
  generalize hH : hdr (num + 1) (bytesC d).length = H at *
  have hHl : H.length ≤ 64 := by rw [← hH, hdr_length]; omega
  have hhp : ∀ k, Part (tear k (padS H) zeroS) := fun k => by rw [← hH]; exact Part.part _ _ k (by omega) (by omega)
  have hwhole : Part (padS H) := by
    have := hhp 64
    rwa [tear_all _ _ (padS_length _ hHl) zeroS_length] at this
  -- the first stage
  have c1 := layM_cases [zeros] D a hD.off (by simp; omega) (by simp [zeros])
  unfold commitM at hokall ⊢
  rcases c1 with ⟨e1, l1⟩ | ⟨e1, f1⟩
  rotate_left
  · -- the power goes while the header is cleared
    rw [e1, if_neg (by decide)] at hokall ⊢
    refine .inr ⟨e1, f1.off, hokall, by rw [f1.safe], by have := f1.taken; simp at this; omega, f1.fall, ?_, fun keep => ?_⟩
    · obtain ⟨m, hm, hw⟩ := f1.ws
      rw [hw, hD.ws, List.nil_append, List.length_take, wr_length, List.length_singleton]; omega
    · have hs : ((layM [zeros] D a).2.crash keep).safe = settle keep D.safe (layM [zeros] D a).2.ws := by rw [Dev.crash, f1.safe]
      obtain ⟨m, hm, hw⟩ := f1.ws
      rw [hD.ws, List.nil_append, wr_zeros] at hw
      rw [hs]
      refine ⟨by unfold settle; rw [settleN_length], .inl ?_⟩
      rcases take_one (a, zeroS) m with hw2 | hw2
      · rw [hw, hw2, settle_none]
        exact touch _ rfl (fun _ _ => rfl) hpart hold
      · rw [hw, hw2]
        have ht := settle_one keep D.safe a zeroS (by omega)
        have hout : ∀ i, i ≠ a → (settle keep D.safe [(a, zeroS)])[i]? = D.safe[i]? := fun i hi => settleN_out keep D.safe _ i (fun x hx => by
          obtain rfl : x = (a, zeroS) := by simpa using hx
          exact fun e => hi e.symm) _
        refine touch _ (by unfold settle; rw [settleN_length]) (fun i hi => hout i (by omega)) ?_ (fun x hx => ?_)
        · rw [getD_some ht]; exact hpart.tear _
        · obtain ⟨n, len, j, k, q1, q2, q3⟩ := hpart
          have hg : (settle keep D.safe [(a, zeroS)]).getD a zeroS = window (max j (keepAt keep 0)) k (hdr n len) := by
            rw [getD_some ht, q3, tear_zero_window, Nat.max_comm]
          have hg2 := readM_part hg x hx
          rw [hg] at hg2
          -- nothing was cleared that wasn't 0: the sector is as it was
          have hsame : D.safe.getD a zeroS = padS (hdr n len) := by
            rw [q3]
            apply List.ext_getElem?
            intro i
            have q4 : (window (max j (keepAt keep 0)) k (hdr n len))[i]? = (padS (hdr n len))[i]? := by rw [hg2]
            rw [window_get, pad_get _ (by rw [hdr_length]; omega)] at q4
            rw [window_get, pad_get _ (by rw [hdr_length]; omega)]
            by_cases hi : i < 64
            · rw [if_pos hi, if_pos hi] at q4 ⊢
              by_cases hw3 : j ≤ i ∧ i < k
              · rw [if_pos hw3]
              · rw [if_neg (by omega)] at q4
                rw [if_neg hw3]; exact q4
            · rw [if_neg hi, if_neg hi]
          have hset : settle keep D.safe [(a, zeroS)] = D.safe := by
            apply List.ext_getElem?
            intro i
            by_cases hi : i = a
            · subst hi
              have e3 : (settle keep D.safe [(i, zeroS)]).getD i zeroS = D.safe.getD i zeroS := by rw [hg, hg2, hsame]
              have e4 : i < (settle keep D.safe [(i, zeroS)]).length := by unfold settle; rw [settleN_length]; omega
              have e5 : i < D.safe.length := by omega
              rw [List.getD_eq_getElem?_getD, List.getD_eq_getElem?_getD, List.getElem?_eq_getElem e4, List.getElem?_eq_getElem e5] at e3
              rw [List.getElem?_eq_getElem e4, List.getElem?_eq_getElem e5]
              simpa using e3
            · exact hout i hi
          rw [hset] at hx
          exact hold x hx
  · rw [e1, if_pos rfl] at hokall ⊢
    have s1 : (layM [zeros] D a).2.safe = runW D.safe [(a, zeroS)] := by rw [l1.safe, hD.ws, List.nil_append, wr_zeros]
    have t1 := l1.taken
    have u1 := l1.fall
    have o1 := l1.off
    have w1 := l1.ws
    generalize (layM [zeros] D a).2 = D1 at *
    have L1 : D1.safe.length = D.safe.length := by rw [s1, runW_length]
    have x1 : D1.safe[a]? = some zeroS := by rw [s1]; exact runW_one _ _ _ (by omega)
    have y1 : ∀ i, i ≠ a → D1.safe[i]? = D.safe[i]? := fun i hi => by rw [s1]; exact runW_one_out _ _ _ _ hi
    simp only [List.length_singleton] at t1
    have c2 := layM_cases (pieces d) D1 (a + 1) o1 (by omega) (pieces_le d)
    rcases c2 with ⟨e2, l2⟩ | ⟨e2, f2⟩
    rotate_left
    · -- .. while the body is written
      rw [e2, if_neg (by decide)] at hokall ⊢
      refine .inr ⟨e2, f2.off, hokall, by rw [f2.safe, L1], by have := f2.taken; omega, Nat.le_trans f2.fall u1, ?_, fun keep => ?_⟩
      · obtain ⟨m, hm, hw⟩ := f2.ws
        rw [hw, w1, List.nil_append, List.length_take, wr_length]; omega
      · obtain ⟨m, hm, hw⟩ := f2.ws
        rw [w1, List.nil_append] at hw
        have hs : ((layM (pieces d) D1 (a + 1)).2.crash keep).safe = settle keep D1.safe ((wr (a + 1) (pieces d)).take m) := by rw [Dev.crash, f2.safe, hw]
        rw [hs]
        have hout : ∀ i, i < a + 1 ∨ a + half ≤ i → (settle keep D1.safe ((wr (a + 1) (pieces d)).take m))[i]? = D1.safe[i]? := fun i hi => settleN_out keep D1.safe _ i (fun x hx => by
          have := wr_mem _ _ _ (List.mem_of_mem_take hx); omega) _
        have hlen : (settle keep D1.safe ((wr (a + 1) (pieces d)).take m)).length = D.safe.length := by unfold settle; rw [settleN_length, L1]
        refine ⟨hlen, .inl ?_⟩
        have hz : (settle keep D1.safe ((wr (a + 1) (pieces d)).take m)).getD a zeroS = zeroS := getD_some ((hout a (by omega)).trans x1)
        exact touch _ hlen (fun i hi => (hout i (by omega)).trans (y1 i (by omega))) (by rw [hz]; exact Part.zero) (fun x hx => by rw [readM_zero hz] at hx; cases hx)
    · rw [e2, if_pos rfl] at hokall ⊢
      have s2 : (layM (pieces d) D1 (a + 1)).2.safe = runW D1.safe (wr (a + 1) (pieces d)) := by rw [l2.safe, w1, List.nil_append]
      have t2 := l2.taken
      have u2 := l2.fall
      have o2 := l2.off
      have w2 := l2.ws
      generalize (layM (pieces d) D1 (a + 1)).2 = D2 at *
      have L2 : D2.safe.length = D.safe.length := by rw [s2, runW_length, L1]
      have y2 : ∀ i, i < a + 1 ∨ a + half ≤ i → D2.safe[i]? = D1.safe[i]? := fun i hi => by
        rw [s2]; exact runW_out _ _ _ fun x hx => by have := wr_mem _ _ _ hx; omega
      have x2 : D2.safe[a]? = some zeroS := (y2 a (by omega)).trans x1
      have b2 : ∀ i, i < (pieces d).length → D2.safe[a + 1 + i]? = ((pieces d)[i]?).map padS := fun i hi => by
        rw [s2]; exact runW_wr _ _ _ _ (by omega) hi
      -- a sector with the whole header is the new copy
      have whole : ∀ S', S'.length = D.safe.length → S'[a]? = some (padS H) → (∀ i, i ≠ a → S'[i]? = D2.safe[i]?) → readM S' a half = some (num + 1, d) := fun S' hS1 hS2 hS3 => by
        have hb := body_back S' (a + 1) (half - 1) (bytesC d).length (bytesC d) (by omega) hpl (fun i hi => by rw [hS3 _ (by omega)]; exact b2 i hi)
        have hh : headR (padS H) = (((num + 1 : Nat) : Int), ((bytesC d).length : Int), ((num + 1 : Nat) : Int)) := by rw [← hH]; exact headR_hdr _ _ (by omega) (by omega)
        have hok : headOk (padS H) half = true := by
          unfold headOk
          rw [hh]
          simp; omega
        unfold readM
        rw [getD_some hS2, hok, if_pos rfl, hh]
        simp only [Int.toNat_natCast]
        rw [hb, parseC_back hd]; rfl
      have c3 := layM_cases [H] D2 a o2 (by simp; omega) (by simpa using hHl)
      rcases c3 with ⟨e3, l3⟩ | ⟨e3, f3⟩
      · -- all is done
        have s3 : (layM [H] D2 a).2.safe = runW D2.safe [(a, padS H)] := by rw [l3.safe, w2, List.nil_append]; rfl
        have t3 := l3.taken
        have u3 := l3.fall
        have x3 : (layM [H] D2 a).2.safe[a]? = some (padS H) := by rw [s3]; exact runW_one _ _ _ (by omega)
        have y3 : ∀ i, i ≠ a → (layM [H] D2 a).2.safe[i]? = D2.safe[i]? := fun i hi => by rw [s3]; exact runW_one_out _ _ _ _ hi
        have L3 : (layM [H] D2 a).2.safe.length = D.safe.length := by rw [s3, runW_length, L2]
        have far : ∀ i, i < a ∨ a + half ≤ i → (layM [H] D2 a).2.safe[i]? = D.safe[i]? := fun i hi => (y3 i (by omega)).trans ((y2 i (by omega)).trans (y1 i (by omega)))
        simp only [List.length_singleton] at t3
        exact .inl ⟨e3, ⟨hokall, l3.off, l3.ws⟩, L3, by omega, by omega, turn _ L3 far (by rw [getD_some x3]; exact hwhole) (whole _ L3 x3 y3), fun i hi => far i (by omega)⟩
      · -- .. while the header is written
        have t3 := f3.taken
        have u3 := f3.fall
        simp only [List.length_singleton] at t3
        refine .inr ⟨e3, f3.off, hokall, by rw [f3.safe, L2], by omega, by omega, ?_, fun keep => ?_⟩
        · obtain ⟨m, hm, hw⟩ := f3.ws
          rw [hw, w2, List.nil_append, List.length_take, wr_length, List.length_singleton]; omega
        · obtain ⟨m, hm, hw⟩ := f3.ws
          rw [w2, List.nil_append] at hw
          have hs : ((layM [H] D2 a).2.crash keep).safe = settle keep D2.safe (([(a, padS H)] : List WrD).take m) := by rw [Dev.crash, f3.safe, hw]; rfl
          rw [hs]
          have hlen : (settle keep D2.safe (([(a, padS H)] : List WrD).take m)).length = D.safe.length := by unfold settle; rw [settleN_length, L2]
          refine ⟨hlen, ?_⟩
          rcases take_one (a, padS H) m with hw2 | hw2
          · rw [hw2, settle_none]
            have hz : D2.safe.getD a zeroS = zeroS := getD_some x2
            exact .inl (touch _ L2 (fun i hi => (y2 i (by omega)).trans (y1 i (by omega))) (by rw [hz]; exact Part.zero) (fun x hx => by rw [readM_zero hz] at hx; cases hx))
          · rw [hw2] at hlen ⊢
            have ht := settle_one keep D2.safe a (padS H) (by omega)
            have hz : D2.safe.getD a zeroS = zeroS := getD_some x2
            rw [hz] at ht
            have hout : ∀ i, i ≠ a → (settle keep D2.safe [(a, padS H)])[i]? = D2.safe[i]? := fun i hi => settleN_out keep D2.safe _ i (fun x hx => by
              obtain rfl : x = (a, padS H) := by simpa using hx
              exact fun e => hi e.symm) _
            have far : ∀ i, i < a ∨ a + half ≤ i → (settle keep D2.safe [(a, padS H)])[i]? = D.safe[i]? := fun i hi => (hout i (by omega)).trans ((y2 i (by omega)).trans (y1 i (by omega)))
            have hp : Part ((settle keep D2.safe [(a, padS H)]).getD a zeroS) := by rw [getD_some ht]; exact hhp _
            cases hx : readM (settle keep D2.safe [(a, padS H)]) a half with
            | none => exact .inl (touch _ hlen far hp (fun x hx2 => by rw [hx] at hx2; cases hx2))
            | some x =>
              have hg : (settle keep D2.safe [(a, padS H)]).getD a zeroS = window 0 (keepAt keep 0) (hdr (num + 1) (bytesC d).length) := by rw [getD_some ht, ← hH, tear_hdr_zero]
              have hg2 := readM_part hg x hx
              rw [hH] at hg2
              have hxx : (settle keep D2.safe [(a, padS H)])[a]? = some (padS H) := by
                rw [getD_some ht] at hg2
                rw [ht, hg2]
              exact .inr (turn _ hlen far hp (whole _ hlen hxx hout))
end Go.Proofs.YtoaipjpbioaneaaGreat
