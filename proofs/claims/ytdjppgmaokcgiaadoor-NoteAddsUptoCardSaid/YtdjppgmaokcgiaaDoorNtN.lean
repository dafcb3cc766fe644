/- Walk of the document's Read. -/
import Derived.Test.YtdjppgmaokcgiaaDoorNtK
namespace Go.Proofs.YtdjppgmaokcgiaaDoor.Nt
open Go Go.RowKit

def lsT (s : ByteArray) : List (List UInt8) := (lnL s.data.toList).1
theorem q_len (s : ByteArray) : (lnT s).length = (lsT s).length := by unfold lnT lsT; rw [List.length_map]
theorem q_get (s : ByteArray) (i : Nat) : ((lnT s).getD i ByteArray.empty).data.toList = (lsT s).getD i [] := by
  rw [getD_data]
  congr 1
  unfold lnT lsT
  rw [List.map_map]
  have : ((fun x : ByteArray => x.data.toList) ∘ bT) = id := rfl
  rw [this, List.map_id]
theorem k_at (s : ByteArray) (i : Nat) (h : i ≤ kOf (lsT s)) : (i < (lnT s).length ∧ neB ((lnT s).getD i ByteArray.empty) = true) ↔ i < kOf (lsT s) := by
  rw [← kOf_at (lsT s) i h, q_len, ← q_get]
  have e : neB ((lnT s).getD i ByteArray.empty) = true ↔ ((lnT s).getD i ByteArray.empty).data.toList ≠ [] := by
    generalize (lnT s).getD i ByteArray.empty = x
    unfold neB
    by_cases hx : x = ⟨#[]⟩
    · rw [hx]; simp
    · rw [decide_eq_false hx]
      exact ⟨fun _ h => hx (ba_ext h), fun _ => rfl⟩
  rw [e]
theorem jq_step (s : ByteArray) (i : Nat) (h : i < (lnT s).length) : bT (jn ((lsT s).take i)) ++ (lnT s).getD i ByteArray.empty ++ sN = bT (jn ((lsT s).take (i + 1))) := by
  rw [q_len] at h
  refine ba_ext ?_
  simp only [ByteArray.data_append, Array.toList_append]
  rw [q_get]
  have e : (lsT s).take (i + 1) = (lsT s).take i ++ [(lsT s).getD i []] := by
    rw [List.take_succ_eq_append_getElem h, show (lsT s).getD i [] = (lsT s)[i] by simp [List.getD, h]]
  show jn ((lsT s).take i) ++ (lsT s).getD i [] ++ [10] = jn ((lsT s).take (i + 1))
  rw [e, jn_app]
  simp [jn]
theorem jq_size (s : ByteArray) (i : Nat) : (bT (jn ((lsT s).take i))).size ≤ s.size := by
  have h1 := congrArg List.length (lnL_join s.data.toList)
  rw [List.length_append, data_len] at h1
  have h2 : jn (lsT s) = jn ((lsT s).take i) ++ jn ((lsT s).drop i) := by rw [← jn_app, List.take_append_drop]
  have h3 := congrArg List.length h2
  rw [List.length_append] at h3
  rw [bT_size]
  have : (jn (lsT s)).length = (jn (lnL s.data.toList).1).length := rfl
  omega
def sdT (s : ByteArray) (k i : Nat) : Option (List (ByteArray × ByteArray)) := rdsD (((lsT s).drop (k + 1)).take (i - (k + 1)))
theorem sd_take (s : ByteArray) (k i : Nat) (hk : k + 1 ≤ i) (h : i < (lnT s).length) : ((lsT s).drop (k + 1)).take (i + 1 - (k + 1)) = ((lsT s).drop (k + 1)).take (i - (k + 1)) ++ [(lsT s).getD i []] := by
  rw [q_len] at h
  have hd : i - (k + 1) < ((lsT s).drop (k + 1)).length := by rw [List.length_drop]; omega
  rw [show i + 1 - (k + 1) = (i - (k + 1)) + 1 by omega, List.take_succ_eq_append_getElem hd, List.getElem_drop]
  congr 2
  have : k + 1 + (i - (k + 1)) = i := by omega
  simp only [this]
  simp [List.getD, h]
theorem sd_yes (s : ByteArray) (k i : Nat) (hk : k + 1 ≤ i) (h : i < (lnT s).length) (sg : List (ByteArray × ByteArray)) (hs : sdT s k i = some sg) (y : ByteArray × ByteArray) (hy : rdD ((lnT s).getD i ByteArray.empty).data.toList = some y) : sdT s k (i + 1) = some (sg ++ [y]) := by
  unfold sdT at hs ⊢
  rw [sd_take s k i hk h, rdsD_snoc, hs, ← q_get, hy]
  rfl
theorem candD_T (s : ByteArray) : candD s.data.toList = if lnB s = true then (sdT s (kOf (lsT s)) (kOf (lsT s) + 20)).map fun sg => (bT (jn ((lsT s).take (kOf (lsT s)))), sg) else none := by
  have hb : lnB s = true ↔ (lnL s.data.toList).2 = [] := by unfold lnB; simp
  unfold candD
  by_cases h : (lnL s.data.toList).2 = []
  · rw [if_pos h, if_pos (hb.2 h)]
    unfold sdT
    rw [show kOf (lsT s) + 20 - (kOf (lsT s) + 1) = 19 by omega]
    rfl
  · rw [if_neg h, if_neg (fun e => h (hb.1 e))]
theorem sd_no (s : ByteArray) (k i : Nat) (hk : k + 1 ≤ i) (h : i < (lnT s).length) (h20 : i < k + 20) (sg : List (ByteArray × ByteArray)) (hs : sdT s k i = some sg) (hy : rdD ((lnT s).getD i ByteArray.empty).data.toList = none) : sdT s k (k + 20) = none := by
  have h1 : rdsD (((lsT s).drop (k + 1)).take (i + 1 - (k + 1))) = none := by
    unfold sdT at hs
    rw [sd_take s k i hk h, rdsD_snoc, hs, ← q_get, hy]
    rfl
  unfold sdT
  have e : ((lsT s).drop (k + 1)).take (k + 20 - (k + 1)) = ((lsT s).drop (k + 1)).take (i + 1 - (k + 1)) ++ (((lsT s).drop (k + 1)).take (k + 20 - (k + 1))).drop (i + 1 - (k + 1)) := by
    have h3 := List.take_append_drop (i + 1 - (k + 1)) (((lsT s).drop (k + 1)).take (k + 20 - (k + 1)))
    rw [List.take_take, Nat.min_eq_left (by omega)] at h3
    exact h3.symm
  rw [e]
  exact rdsD_app _ _ h1
theorem sd_end (s : ByteArray) (k i : Nat) (h1 : i ≤ k + 20) (h : ¬ (i < (lnT s).length ∧ i < k + 20)) : sdT s k i = sdT s k (k + 20) := by
  unfold sdT
  rw [q_len] at h
  by_cases h2 : i < k + 20
  · have hl : (lsT s).length ≤ i := by omega
    rw [List.take_of_length_le (by rw [List.length_drop]; omega), List.take_of_length_le (by rw [List.length_drop]; omega)]
  · rw [show i = k + 20 by omega]
theorem rdD_iff (x : ByteArray) : rdD x.data.toList = if 69 ≤ x.size ∧ x.extract 0 4 = sSig ∧ x.data.toList.getD 68 0 = 32 ∧ unB (x.extract 4 68).data.toList = true ∧ unB (x.extract 69 x.size).data.toList = true then some (unT (x.extract 4 68).data.toList, unT (x.extract 69 x.size).data.toList) else none := by
  have e1 : x.extract 0 4 = sSig ↔ x.data.toList.take 4 = lSig := by
    refine ⟨fun h => ?_, fun h => ba_ext ?_⟩
    · rw [← Lib.extract_from_zero, h]; rfl
    · rw [Lib.extract_from_zero, h]; rfl
  have e2 : (x.extract 4 68).data.toList = (x.data.toList.drop 4).take 64 := by rw [Lib.extract_data]
  have e3 : (x.extract 69 x.size).data.toList = x.data.toList.drop 69 := Lib.extract_to_end _ _
  unfold rdD
  simp only [e1, e2, e3, data_len]
theorem rdsD_len : ∀ (l : List (List UInt8)) (sg : List (ByteArray × ByteArray)), rdsD l = some sg → sg.length = l.length
  | [], sg, h => by cases h; rfl
  | x :: l, sg, h => by
    rw [rdsD] at h
    cases hx : rdD x with
    | none => rw [hx] at h; cases h
    | some y =>
      rw [hx] at h
      cases hl : rdsD l with
      | none => rw [hl] at h; cases h
      | some z =>
        rw [hl] at h
        cases h
        simp [rdsD_len l z hl]
theorem sd_len {s : ByteArray} {k i : Nat} {sg : List (ByteArray × ByteArray)} (h : sdT s k i = some sg) : sg.length ≤ i - (k + 1) := by
  have := rdsD_len _ _ h
  rw [this, List.length_take]; omega
end Go.Proofs.YtdjppgmaokcgiaaDoor.Nt
