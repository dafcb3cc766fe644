/- Trees of hashes, on lists: the root, the proofs, and what comes out of a proof. -/
import Derived.Test.YtdnhpldcnmbncaaDoorRefD
import Derived.Test.YtdnhpldcnmbncaaDoorHas
import Derived.Laws.MathBits
namespace Go.Proofs.YtdnhpldcnmbncaaDoor
open Go Go.RowKit

def oneB (b : UInt8) : ByteArray := ⟨#[b]⟩
def noneH : ByteArray := hashOf (flat [])
def leafH (s : ByteArray) : ByteArray := hashOf (flat [oneB 0, s])
def nodeH (l r : ByteArray) : ByteArray := hashOf (flat [oneB 1, l, r])
theorem leafH_size (s : ByteArray) : (leafH s).size = 32 := hash_size _
theorem nodeH_size (l r : ByteArray) : (nodeH l r).size = 32 := hash_size _
theorem noneH_size : noneH.size = 32 := hash_size _
/-- The greatest power of two below n (n above 1). -/
def cutN (n : Nat) : Nat := 2 ^ (n - 1).log2
theorem cutN_pos (n : Nat) : 0 < cutN n := Nat.two_pow_pos _
theorem cutN_lt {n : Nat} (h : 2 ≤ n) : cutN n < n := by
  have := Nat.log2_self_le (n := n - 1) (by omega)
  unfold cutN; omega
theorem cutN_ge (n : Nat) : n ≤ 2 * cutN n := by
  have : n - 1 < 2 ^ ((n - 1).log2 + 1) := Nat.lt_log2_self
  unfold cutN
  rw [Nat.pow_succ] at this; omega
theorem cutN_pow {j n : Nat} (h1 : 2 ^ j < n) (h2 : n ≤ 2 * 2 ^ j) : cutN n = 2 ^ j := by
  have : (n - 1).log2 = j := (Nat.log2_eq_iff (by have := Nat.two_pow_pos j; omega)).2 ⟨by omega, by rw [Nat.pow_succ]; omega⟩
  rw [cutN, this]
/-- A beginning that is longer than the left part has the same left part. -/
theorem cutN_same {m n : Nat} (hm : cutN n < m) (h : m ≤ n) : cutN m = cutN n := by
  have := cutN_ge n
  exact cutN_pow (j := (n - 1).log2) hm (by unfold cutN at this; omega)

def rootL (l : List ByteArray) : ByteArray :=
  if _h : l.length ≤ 1 then l.getD 0 noneH else nodeH (rootL (l.take (cutN l.length))) (rootL (l.drop (cutN l.length)))
termination_by l.length
decreasing_by
  · have := cutN_lt (n := l.length) (by omega); simp; omega
  · have := cutN_pos l.length; simp; omega
theorem rootL_nil : rootL [] = noneH := by rw [rootL]; rfl
theorem rootL_one (x : ByteArray) : rootL [x] = x := by rw [rootL]; rfl
theorem rootL_cut (l : List ByteArray) (h : 2 ≤ l.length) : rootL l = nodeH (rootL (l.take (cutN l.length))) (rootL (l.drop (cutN l.length))) := by
  conv => lhs; rw [rootL]
  rw [dif_neg (by omega)]
/-- Texts that a machine can put together. -/
def Fit (l : List ByteArray) : Prop := ∀ x ∈ l, x.size ≤ 70000000000000
theorem Fit.take {l : List ByteArray} (h : Fit l) (k : Nat) : Fit (l.take k) := fun x hx => h x (List.mem_of_mem_take hx)
theorem Fit.drop {l : List ByteArray} (h : Fit l) (k : Nat) : Fit (l.drop k) := fun x hx => h x (List.mem_of_mem_drop hx)
theorem Fit.getD {l : List ByteArray} (h : Fit l) (i : Nat) : (l.getD i ByteArray.empty).size ≤ 70000000000000 := by
  rw [List.getD_eq_getElem?_getD]
  cases hi : l[i]? with
  | none => exact Nat.zero_le _
  | some x => exact h x (List.mem_of_getElem? hi)
theorem root_size (l : List ByteArray) (h : Fit l) : (rootL l).size ≤ 70000000000000 := by
  by_cases h2 : 2 ≤ l.length
  · rw [rootL_cut l h2, nodeH_size]; decide
  · match l with
    | [] => rw [rootL_nil, noneH_size]; decide
    | [x] => rw [rootL_one]; exact h x (by simp)
    | _ :: _ :: _ => simp at h2
theorem flat_leaf (s : ByteArray) : (flat [oneB 0, s]).length = 1 + s.size := by
  simp only [flat, List.flatMap_cons, List.flatMap_nil, List.append_nil, List.length_append, data_len, oneB]
  rfl
theorem flat_node (l r : ByteArray) : (flat [oneB 1, l, r]).length = 1 + l.size + r.size := by
  simp only [flat, List.flatMap_cons, List.flatMap_nil, List.append_nil, List.length_append, data_len, oneB]
  rw [← Nat.add_assoc]; rfl

/-- The inclusion proof. -/
def placeL (l : List ByteArray) (i : Nat) : List ByteArray :=
  if _h : l.length ≤ 1 then [] else
  if i < cutN l.length then placeL (l.take (cutN l.length)) i ++ [rootL (l.drop (cutN l.length))] else placeL (l.drop (cutN l.length)) (i - cutN l.length) ++ [rootL (l.take (cutN l.length))]
termination_by l.length
decreasing_by
  · have := cutN_lt (n := l.length) (by omega); simp; omega
  · have := cutN_pos l.length; simp; omega
theorem placeL_one (l : List ByteArray) (h : l.length ≤ 1) (i : Nat) : placeL l i = [] := by rw [placeL, dif_pos h]
theorem placeL_left (l : List ByteArray) (h : 2 ≤ l.length) (i : Nat) (hi : i < cutN l.length) : placeL l i = placeL (l.take (cutN l.length)) i ++ [rootL (l.drop (cutN l.length))] := by
  conv => lhs; rw [placeL]
  rw [dif_neg (by omega), if_pos hi]
theorem placeL_right (l : List ByteArray) (h : 2 ≤ l.length) (i : Nat) (hi : cutN l.length ≤ i) : placeL l i = placeL (l.drop (cutN l.length)) (i - cutN l.length) ++ [rootL (l.take (cutN l.length))] := by
  conv => lhs; rw [placeL]
  rw [dif_neg (by omega), if_neg (by omega)]
/-- The consistency proof's part. -/
def partL (m : Nat) (l : List ByteArray) (whole : Bool) : List ByteArray :=
  if m = l.length then (if whole then [] else [rootL l]) else
  if _h : l.length ≤ 1 then [] else
  if m ≤ cutN l.length then partL m (l.take (cutN l.length)) whole ++ [rootL (l.drop (cutN l.length))] else partL (m - cutN l.length) (l.drop (cutN l.length)) false ++ [rootL (l.take (cutN l.length))]
termination_by l.length
decreasing_by
  · have := cutN_lt (n := l.length) (by omega); simp; omega
  · have := cutN_pos l.length; simp; omega
theorem partL_all (m : Nat) (l : List ByteArray) (whole : Bool) (h : m = l.length) : partL m l whole = if whole then [] else [rootL l] := by rw [partL, if_pos h]
theorem partL_left (m : Nat) (l : List ByteArray) (whole : Bool) (h : 2 ≤ l.length) (hm : m ≠ l.length) (hk : m ≤ cutN l.length) : partL m l whole = partL m (l.take (cutN l.length)) whole ++ [rootL (l.drop (cutN l.length))] := by
  conv => lhs; rw [partL]
  rw [if_neg hm, dif_neg (by omega), if_pos hk]
theorem partL_right (m : Nat) (l : List ByteArray) (whole : Bool) (h : 2 ≤ l.length) (hm : m ≠ l.length) (hk : cutN l.length < m) : partL m l whole = partL (m - cutN l.length) (l.drop (cutN l.length)) false ++ [rootL (l.take (cutN l.length))] := by
  conv => lhs; rw [partL]
  rw [if_neg hm, dif_neg (by omega), if_neg (by omega)]

/-- On which side of each node the leaf stands, from the leaf on. -/
def sides (i n : Nat) : List Bool :=
  if _h : n ≤ 1 then [] else
  if i < cutN n then sides i (cutN n) ++ [true] else sides (i - cutN n) (n - cutN n) ++ [false]
termination_by n
decreasing_by
  · exact cutN_lt (by omega)
  · have := cutN_pos n; omega
theorem sides_one (i n : Nat) (h : n ≤ 1) : sides i n = [] := by rw [sides, dif_pos h]
theorem sides_left (i n : Nat) (h : 2 ≤ n) (hi : i < cutN n) : sides i n = sides i (cutN n) ++ [true] := by
  conv => lhs; rw [sides]
  rw [dif_neg (by omega), if_pos hi]
theorem sides_right (i n : Nat) (h : 2 ≤ n) (hi : cutN n ≤ i) : sides i n = sides (i - cutN n) (n - cutN n) ++ [false] := by
  conv => lhs; rw [sides]
  rw [dif_neg (by omega), if_neg (by omega)]
def goUp (h : ByteArray) : List Bool → List ByteArray → ByteArray
  | b :: bs, p :: ps => goUp (if b then nodeH h p else nodeH p h) bs ps
  | _, _ => h
theorem goUp_snoc : ∀ (bs : List Bool) (ps : List ByteArray) (h : ByteArray) (b : Bool) (p : ByteArray), ps.length = bs.length → goUp h (bs ++ [b]) (ps ++ [p]) = if b then nodeH (goUp h bs ps) p else nodeH p (goUp h bs ps)
  | [], [], h, b, p, _ => by simp [goUp]
  | _ :: bs, _ :: ps, h, b, p, hl => by
    simp only [List.cons_append, goUp]
    exact goUp_snoc bs ps _ b p (by simpa using hl)
  | [], _ :: _, _, _, _, hl => by simp at hl
  | _ :: _, [], _, _, _, hl => by simp at hl
theorem place_sides : ∀ (n : Nat) (l : List ByteArray) (i : Nat), l.length = n → i < n → (placeL l i).length = (sides i n).length ∧ goUp (l.getD i ByteArray.empty) (sides i n) (placeL l i) = rootL l := by
  intro n
  induction n using Nat.strongRecOn with
  | ind n ih =>
    intro l i hl hi
    by_cases h2 : 2 ≤ n
    · have hk := cutN_lt h2
      have hk0 := cutN_pos n
      have hl2 : 2 ≤ l.length := by omega
      rw [rootL_cut l hl2]
      by_cases hik : i < cutN n
      · rw [sides_left i n h2 hik, placeL_left l hl2 i (by rw [hl]; exact hik), hl]
        obtain ⟨h3, h4⟩ := ih (cutN n) hk (l.take (cutN n)) i (by simp; omega) hik
        refine ⟨by simp [h3], ?_⟩
        rw [goUp_snoc _ _ _ _ _ h3, if_pos rfl, ← h4]
        simp [List.getD, hik]
      · rw [sides_right i n h2 (by omega), placeL_right l hl2 i (by rw [hl]; omega), hl]
        obtain ⟨h3, h4⟩ := ih (n - cutN n) (by omega) (l.drop (cutN n)) (i - cutN n) (by simp; omega) (by omega)
        refine ⟨by simp [h3], ?_⟩
        rw [goUp_snoc _ _ _ _ _ h3, if_neg (by simp), ← h4]
        simp [List.getD, List.getElem?_drop, show cutN n + (i - cutN n) = i by omega]
    · obtain rfl : n = 1 := by omega
      obtain rfl : i = 0 := by omega
      match l, hl with
      | [x], _ => rw [placeL_one _ (by simp), sides_one _ _ (by simp), rootL_one]; exact ⟨rfl, rfl⟩

/-- The like for a list's beginning: where the node's left part holds all of it (true), or it holds all of the left part. -/
def steps (m n : Nat) : List Bool :=
  if m = n then [] else
  if _h : n ≤ 1 then [] else
  if m ≤ cutN n then steps m (cutN n) ++ [true] else steps (m - cutN n) (n - cutN n) ++ [false]
termination_by n
decreasing_by
  · exact cutN_lt (by omega)
  · have := cutN_pos n; omega
theorem steps_all (n : Nat) : steps n n = [] := by rw [steps, if_pos rfl]
theorem steps_left (m n : Nat) (h : 2 ≤ n) (hm : m ≠ n) (hk : m ≤ cutN n) : steps m n = steps m (cutN n) ++ [true] := by
  conv => lhs; rw [steps]
  rw [if_neg hm, dif_neg (by omega), if_pos hk]
theorem steps_right (m n : Nat) (h : 2 ≤ n) (hm : m ≠ n) (hk : cutN n < m) : steps m n = steps (m - cutN n) (n - cutN n) ++ [false] := by
  conv => lhs; rw [steps]
  rw [if_neg hm, dif_neg (by omega), if_neg (by omega)]
def goGrow (r : ByteArray × ByteArray) : List Bool → List ByteArray → ByteArray × ByteArray
  | b :: bs, p :: ps => goGrow (if b then (r.1, nodeH r.2 p) else (nodeH p r.1, nodeH p r.2)) bs ps
  | _, _ => r
theorem goGrow_snoc : ∀ (bs : List Bool) (ps : List ByteArray) (r : ByteArray × ByteArray) (b : Bool) (p : ByteArray), ps.length = bs.length →
    goGrow r (bs ++ [b]) (ps ++ [p]) = if b then ((goGrow r bs ps).1, nodeH (goGrow r bs ps).2 p) else (nodeH p (goGrow r bs ps).1, nodeH p (goGrow r bs ps).2)
  | [], [], h, b, p, _ => by simp [goGrow]
  | _ :: bs, _ :: ps, h, b, p, hl => by
    simp only [List.cons_append, goGrow]
    exact goGrow_snoc bs ps _ b p (by simpa using hl)
  | [], _ :: _, _, _, _, hl => by simp at hl
  | _ :: _, [], _, _, _, hl => by simp at hl
/-- Whether old itself stands at the ground. -/
def grounded (m n : Nat) (whole : Bool) : Bool := whole && (steps m n).all id
theorem grounded_all (n : Nat) (whole : Bool) : grounded n n whole = whole := by simp [grounded, steps_all]
theorem grounded_left (m n : Nat) (whole : Bool) (h : 2 ≤ n) (hm : m ≠ n) (hk : m ≤ cutN n) : grounded m n whole = grounded m (cutN n) whole := by simp [grounded, steps_left m n h hm hk]
theorem grounded_right (m n : Nat) (whole : Bool) (h : 2 ≤ n) (hm : m ≠ n) (hk : cutN n < m) : grounded m n whole = grounded (m - cutN n) (n - cutN n) false := by simp [grounded, steps_right m n h hm hk]
/-- How many hashes a consistency proof has. -/
def wants (m n : Nat) (whole : Bool) : Nat := (steps m n).length + if grounded m n whole then 0 else 1
/-- What comes out of it. -/
def outOf (m n : Nat) (whole : Bool) (old : ByteArray) (ps : List ByteArray) : ByteArray × ByteArray :=
  if grounded m n whole then goGrow (old, old) (steps m n) ps else goGrow (ps.getD 0 ByteArray.empty, ps.getD 0 ByteArray.empty) (steps m n) ps.tail
theorem wants_all (n : Nat) (whole : Bool) : wants n n whole = if whole then 0 else 1 := by simp [wants, steps_all, grounded_all]
theorem wants_left (m n : Nat) (whole : Bool) (h : 2 ≤ n) (hm : m ≠ n) (hk : m ≤ cutN n) : wants m n whole = wants m (cutN n) whole + 1 := by
  rw [wants, wants, grounded_left m n whole h hm hk, steps_left m n h hm hk, List.length_append, List.length_singleton]; omega
theorem wants_right (m n : Nat) (whole : Bool) (h : 2 ≤ n) (hm : m ≠ n) (hk : cutN n < m) : wants m n whole = wants (m - cutN n) (n - cutN n) false + 1 := by
  rw [wants, wants, grounded_right m n whole h hm hk, steps_right m n h hm hk, List.length_append, List.length_singleton]; omega
theorem outOf_all (n : Nat) (whole : Bool) (old : ByteArray) (ps : List ByteArray) : outOf n n whole old ps = if whole then (old, old) else (ps.getD 0 ByteArray.empty, ps.getD 0 ByteArray.empty) := by
  simp [outOf, steps_all, grounded_all, goGrow]
theorem tail_snoc (ps : List ByteArray) (p : ByteArray) (h : 0 < ps.length) : (ps ++ [p]).tail = ps.tail ++ [p] ∧ (ps ++ [p]).getD 0 ByteArray.empty = ps.getD 0 ByteArray.empty := by
  match ps, h with
  | _ :: _, _ => exact ⟨rfl, rfl⟩
theorem outOf_left (m n : Nat) (whole : Bool) (old : ByteArray) (ps : List ByteArray) (p : ByteArray) (h : 2 ≤ n) (hm : m ≠ n) (hk : m ≤ cutN n) (hl : ps.length = wants m (cutN n) whole) :
    outOf m n whole old (ps ++ [p]) = ((outOf m (cutN n) whole old ps).1, nodeH (outOf m (cutN n) whole old ps).2 p) := by
  rw [outOf, outOf, grounded_left m n whole h hm hk, steps_left m n h hm hk]
  unfold wants at hl
  cases hg : grounded m (cutN n) whole with
  | true => rw [if_pos rfl, if_pos rfl, goGrow_snoc _ _ _ _ _ (by rw [hg] at hl; simpa using hl), if_pos rfl]
  | false =>
    rw [hg] at hl
    obtain ⟨h1, h2⟩ := tail_snoc ps p (by simp at hl; omega)
    rw [if_neg (by simp), if_neg (by simp), h1, h2, goGrow_snoc _ _ _ _ _ (by simp at hl; simp; omega), if_pos rfl]
theorem outOf_right (m n : Nat) (whole : Bool) (old : ByteArray) (ps : List ByteArray) (p : ByteArray) (h : 2 ≤ n) (hm : m ≠ n) (hk : cutN n < m) (hl : ps.length = wants (m - cutN n) (n - cutN n) false) :
    outOf m n whole old (ps ++ [p]) = (nodeH p (outOf (m - cutN n) (n - cutN n) false old ps).1, nodeH p (outOf (m - cutN n) (n - cutN n) false old ps).2) := by
  rw [outOf, outOf, grounded_right m n whole h hm hk, steps_right m n h hm hk]
  unfold wants at hl
  have hg : grounded (m - cutN n) (n - cutN n) false = false := rfl
  rw [hg] at hl ⊢
  obtain ⟨h1, h2⟩ := tail_snoc ps p (by simp at hl; omega)
  rw [if_neg (by simp), if_neg (by simp), h1, h2, goGrow_snoc _ _ _ _ _ (by simp at hl; simp; omega), if_neg (by simp)]
/-- A list's own consistency proof. -/
theorem part_steps : ∀ (n : Nat) (l : List ByteArray) (m : Nat) (whole : Bool), l.length = n → 0 < m → m ≤ n →
    (partL m l whole).length = wants m n whole ∧ outOf m n whole (rootL (l.take m)) (partL m l whole) = (rootL (l.take m), rootL l) := by
  intro n
  induction n using Nat.strongRecOn with
  | ind n ih =>
    intro l m whole hl hm0 hm
    by_cases hmn : m = n
    · subst hmn
      rw [partL_all m l whole hl.symm, wants_all, outOf_all, List.take_of_length_le (by omega)]
      cases whole <;> exact ⟨rfl, rfl⟩
    · have h2 : 2 ≤ n := by omega
      have hk := cutN_lt h2
      have hk0 := cutN_pos n
      have hl2 : 2 ≤ l.length := by omega
      by_cases hmk : m ≤ cutN n
      · obtain ⟨h3, h4⟩ := ih (cutN n) hk (l.take (cutN n)) m whole (by simp; omega) hm0 hmk
        rw [List.take_take, Nat.min_eq_left hmk] at h4
        rw [partL_left m l whole hl2 (by omega) (by rw [hl]; exact hmk), hl, wants_left m n whole h2 hmn hmk, outOf_left m n whole _ _ _ h2 hmn hmk h3, h4]
        refine ⟨by simp [h3], ?_⟩
        rw [rootL_cut l hl2, hl]
      · have hmk : cutN n < m := by omega
        obtain ⟨h3, h4⟩ := ih (n - cutN n) (by omega) (l.drop (cutN n)) (m - cutN n) false (by simp; omega) (by omega) (by omega)
        rw [partL_right m l whole hl2 (by omega) (by rw [hl]; exact hmk), hl, wants_right m n whole h2 hmn hmk, outOf_right m n whole _ _ _ h2 hmn hmk h3]
        have hold : ∀ o1 o2, outOf (m - cutN n) (n - cutN n) false o1 (partL (m - cutN n) (l.drop (cutN n)) false) = outOf (m - cutN n) (n - cutN n) false o2 (partL (m - cutN n) (l.drop (cutN n)) false) := fun _ _ => rfl
        rw [hold _ (rootL ((l.drop (cutN n)).take (m - cutN n))), h4]
        refine ⟨by simp [h3], ?_⟩
        have hc : cutN (l.take m).length = cutN n := by rw [List.length_take, hl, Nat.min_eq_left hm]; exact cutN_same hmk hm
        rw [rootL_cut l hl2, rootL_cut (l.take m) (by simp; omega), hc, hl, List.take_take, Nat.min_eq_left (by omega), List.drop_take]
end Go.Proofs.YtdnhpldcnmbncaaDoor
