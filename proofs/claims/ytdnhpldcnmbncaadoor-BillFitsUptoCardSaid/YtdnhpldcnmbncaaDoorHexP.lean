/- Plain facts on hex, read back; and the law for an append to a row of bytes that the call owns. -/
import Derived.Test.YtdnhpldcnmbncaaDoorHexA
namespace Go.Proofs.YtdnhpldcnmbncaaDoor
open Go.RowKit

/-- What a digit stands for; whether it is one. -/
def hvN (x : UInt8) : Nat := if 48 ≤ x.toNat ∧ x.toNat ≤ 57 then x.toNat - 48 else if 97 ≤ x.toNat ∧ x.toNat ≤ 102 then x.toNat - 87 else 0
def hvB (x : UInt8) : Bool := decide ((48 ≤ x.toNat ∧ x.toNat ≤ 57) ∨ (97 ≤ x.toNat ∧ x.toNat ≤ 102))
theorem hvN_lt (x : UInt8) : hvN x < 16 := by
  unfold hvN; split
  · omega
  · split <;> omega
def pairB (a b : UInt8) : UInt8 := UInt8.ofNat (16 * hvN a + hvN b)
theorem pair_nat (a b : UInt8) : (pairB a b).toNat = 16 * hvN a + hvN b := by
  have h1 := hvN_lt a; have h2 := hvN_lt b
  unfold pairB
  rw [UInt8.toNat_ofNat']; omega
theorem pair_or (a b : UInt8) : bits .or .u8 ((hvN a : Int) * 16) (hvN b : Int) = ((pairB a b).toNat : Int) := by
  have h : ∀ x y : Fin 16, bits .or .u8 ((x.val : Int) * 16) (y.val : Int) = ((16 * x.val + y.val : Nat) : Int) := by decide +kernel
  rw [pair_nat]
  exact h ⟨hvN a, hvN_lt a⟩ ⟨hvN b, hvN_lt b⟩
def unhexL : List UInt8 → Option (List UInt8)
  | [] => some []
  | [_] => none
  | a :: b :: r => if hvB a && hvB b then (unhexL r).map (pairB a b :: ·) else none
theorem unhexL_app : ∀ (k : Nat) (p q : List UInt8), p.length = 2 * k → unhexL (p ++ q) = (unhexL p).bind fun o => (unhexL q).map (o ++ ·)
  | 0, p, q, h => by
    obtain rfl : p = [] := List.length_eq_zero_iff.1 (by omega)
    simp [unhexL]
  | k + 1, p, q, h => by
    match p, h with
    | a :: b :: r, h =>
      have hr : r.length = 2 * k := by simp at h; omega
      simp only [List.cons_append, unhexL]
      rw [unhexL_app k r q hr]
      by_cases hb : (hvB a && hvB b) = true
      · simp only [hb, if_true]
        cases unhexL r with
        | none => rfl
        | some o => cases unhexL q <;> simp
      · simp [hb]
theorem unhexL_odd : ∀ (k : Nat) (p : List UInt8), p.length = 2 * k + 1 → unhexL p = none
  | 0, p, h => by
    match p, h with
    | [a], _ => rfl
  | k + 1, p, h => by
    match p, h with
    | a :: b :: r, h =>
      simp only [unhexL]
      rw [unhexL_odd k r (by simp at h; omega)]
      simp
theorem unhexL_length : ∀ (k : Nat) (p o : List UInt8), p.length = 2 * k → unhexL p = some o → o.length = k
  | 0, p, o, h, ho => by
    obtain rfl : p = [] := List.length_eq_zero_iff.1 (by omega)
    simp [unhexL] at ho; subst ho; rfl
  | k + 1, p, o, h, ho => by
    match p, h with
    | a :: b :: r, h =>
      simp only [unhexL] at ho
      split at ho
      · cases hr : unhexL r with
        | none => rw [hr] at ho; simp at ho
        | some o' =>
          rw [hr] at ho
          simp at ho
          subst ho
          have := unhexL_length k r o' (by simp at h; omega) hr
          simp [this]
      · cases ho
theorem take_two (s : ByteArray) (k : Nat) (h : 2 * k + 1 < s.size) : s.data.toList.take (2 * (k + 1)) = s.data.toList.take (2 * k) ++ [s[2 * k], s[2 * k + 1]] := by
  rw [show 2 * (k + 1) = 2 * k + 1 + 1 by omega, get_take s (2 * k + 1) h, get_take s (2 * k) (by omega), List.append_assoc]; rfl
/-- One more pair. -/
theorem unhex_step (s : ByteArray) (k : Nat) (o : List UInt8) (h : 2 * k + 1 < s.size) (ho : unhexL (s.data.toList.take (2 * k)) = some o) (h1 : hvB s[2 * k] = true) (h2 : hvB s[2 * k + 1] = true) :
    unhexL (s.data.toList.take (2 * (k + 1))) = some (o ++ [pairB s[2 * k] s[2 * k + 1]]) := by
  rw [take_two s k h, unhexL_app k _ _ (by rw [List.length_take, data_len]; omega), ho]
  simp [unhexL, h1, h2]
theorem unhex_bad (s : ByteArray) (k : Nat) (o : List UInt8) (h : 2 * k + 1 < s.size) (ho : unhexL (s.data.toList.take (2 * k)) = some o) (hb : (hvB s[2 * k] && hvB s[2 * k + 1]) = false) :
    unhexL s.data.toList = none := by
  conv => lhs; rw [← List.take_append_drop (2 * (k + 1)) s.data.toList]
  rw [unhexL_app (k + 1) _ _ (by rw [List.length_take, data_len]; omega), take_two s k h, unhexL_app k _ _ (by rw [List.length_take, data_len]; omega), ho]
  simp only [unhexL, hb]; rfl
/-- The text and the flag that come out. -/
def unT (l : List UInt8) : ByteArray := ⟨((unhexL l).getD []).toArray⟩
def unB (l : List UInt8) : Bool := (unhexL l).isSome

/-- Append of some bytes, lying in a row of their own, to a row of bytes that the call owns. -/
theorem wpList_push {w w0 : World} {ops : Array Oper} {rest : List Oper} {o : Oper} {a : Act} {Q : Exit → Act → World → Prop} (hgd : o.guard = none) (s x : Operand)
    (ho : o.op = .call { callee := .builtin .append, args := #[s, x], argTypes := #[43, 43] }) (base : Nat) (v : Value) (l : List UInt8) (hs : a.eval s = v)
    (hO : Box (w.ownsRow base 5 1 v l.length (l.map yc))) (g : Nat) (news : List UInt8) (hx : a.eval x = .slice (some ⟨g, 0, none⟩) news.length news.length)
    (hn : ∀ j, j < news.length → w.cell? ⟨g, j, none⟩ = (news.map yc)[j]?) (hlen : l.length + news.length ≤ 70368744177664) (hbase : base ≤ w.heap.size) (hB : Box (Below base w0 w))
    (h : ∀ v' w', Box (w'.ownsRow base 5 1 v' (l ++ news).length ((l ++ news).map yc)) → Box (Below base w0 w') → wpList Tryd.prog ops Q rest (a.put o.dst v') w') : wpList Tryd.prog ops Q (o :: rest) a w := by
  obtain ⟨i0, hi, hz0, hz1, hz2⟩ := info_parts info5
  refine wpList_append_own _ hgd s x 43 ho base 5 i0 (.int .u8 0) 1 1 Tryd.underlying43 hi hz0 hz1 hz2 rfl (by decide) v l.length _ hs hO.out ⟨g, 0, none⟩ news.length news.length (news.map yc) hx (by simp)
    (fun j u hj => ?_) (fun u hu => ?_) (by unfold maxLen; omega) (by omega) hbase ?_
  · have hadd : (⟨g, 0, none⟩ : Addr).add j = ⟨g, j, none⟩ := by unfold Addr.add; split <;> simp_all
    have hjl : j < news.length := by
      rcases Nat.lt_or_ge j news.length with h | h
      · exact h
      · rw [List.getElem?_eq_none (by simpa using h)] at hj; cases hj
    rw [hadd, hn j hjl]; exact hj
  · simp only [List.mem_map] at hu; obtain ⟨y, _, rfl⟩ := hu; rfl
  · intro v' w' h2 h3 _
    refine h v' w' ⟨?_⟩ ⟨hB.out.grown h3 hbase (fun k hk => (hO.out.lt k hk).1)⟩
    rw [List.length_append, List.map_append]; exact h2
end Go.Proofs.YtdnhpldcnmbncaaDoor
