/- Inside a fence: a drawn region none of whose operations calls, by the same law as outside (region_go_in beside region_go); a plain operation that yields a value, or nothing, in one known way. No program is named. -/
import Derived.Test.YtoaipjpbioaneaaGreatQg
import Derived.RangeFuncNested
import Derived.OwnWalkIn
import Derived.OrdersIn
namespace Go.Proofs.YtoaipjpbioaneaaGreat
open Go

/-- An operation that never calls, nor defers. -/
def stillOp : Op → Bool
  | .store _ _ _ | .alloc _ => true
  | o => calm o
/-- It yields a value, or nothing. -/
def twoWays (r : Result Next) : Prop := ∀ n w', r = .ok n w' → (∃ v, n = .value v) ∨ n = .skip
section
variable {P : Program}
theorem two_bind {α : Type} (s : Sem α) (k : α → Sem Next) (w : World) (hk : ∀ v w, twoWays ((k v).run P w)) : twoWays ((s >>= k).run P w) := by
  rw [Sem.run_bind]
  cases s.run P w with
  | ok v w1 => exact hk v w1
  | halt x w1 => intro n w' h; simp [Result.andThen] at h
theorem two_value (s : Sem Value) (w : World) : twoWays (((do pure (Next.value (← s)) : Sem Next)).run P w) :=
  two_bind s _ w fun v w n w' h => by
    simp at h
    exact .inl ⟨v, h.1.symm⟩
theorem two_skip (s : Sem Unit) (w : World) : twoWays (((do s; pure Next.skip : Sem Next)).run P w) :=
  two_bind s _ w fun v w n w' h => by
    simp at h
    exact .inr h.1.symm
theorem two_pure (v : Value) (w : World) : twoWays ((pure (Next.value v) : Sem Next).run P w) := fun n w' h => by
  simp at h
  exact .inl ⟨v, h.1.symm⟩
theorem two_nil (ρ : Operand → Value) (o : Oper) (x : Operand) (ho : o.op = .nilCheck x) (w : World) : twoWays ((execOp ρ o).run P w) := by
  unfold execOp
  simp only [ho]
  split
  · intro n w' h; simp [runtimePanic] at h
  · intro n w' h; simp [runtimePanic] at h
  · intro n w' h; simp [runtimePanic] at h
  · split
    · intro n w' h; simp [runtimePanic] at h
    · refine two_bind _ _ _ fun v w => two_bind _ _ _ fun v w => ?_
      split
      · exact two_bind _ _ _ fun v w => two_pure _ _
      · exact two_pure _ _
    · exact two_pure _ _
  · exact two_pure _ _
theorem still_two (ρ : Operand → Value) (o : Oper) (ho : stillOp o.op = true) (w : World) : twoWays ((execOp ρ o).run P w) := by
  cases hop : o.op <;> rw [hop] at ho <;> simp only [stillOp, calm, Bool.false_eq_true] at ho
  case nilCheck x => exact two_nil ρ o x hop w
  case move x => unfold execOp; simp only [hop]; exact two_pure _ _
  case assign x => unfold execOp; simp only [hop]; exact two_pure _ _
  case pick c a b => unfold execOp; simp only [hop]; exact two_bind _ _ _ fun v w => two_pure _ _
  case store t a x => unfold execOp; simp only [hop]; exact two_skip _ _
  all_goals (unfold execOp; simp only [hop]; exact two_value _ w)
theorem still_about (ρ : Operand → Value) (o : Oper) (ho : stillOp o.op = true) (w : World) : o.about P w ρ = none := by
  unfold Oper.about
  cases hop : o.op <;> rw [hop] at ho <;> simp only [stillOp, calm, Bool.false_eq_true] at ho <;> rfl
theorem still_defer (o : Oper) (ho : stillOp o.op = true) (c : Call) : o.op ≠ .defer c := by
  intro h; rw [h] at ho; simp [stillOp, calm] at ho
end
section
variable {F : Fence} {n : Nat} {P : Program} {ops : Array Oper} {md : Region.Mode} {C : World → Prop}
theorem wpIn_of_go {o : Oper} (ho : stillOp o.op = true) {a : Act} {w : World} {K : Act → World → Prop} {Q' : Exit → Act → World → Prop} (hh : goAt P o a w K) : o.wpIn F n P a w K Q' := by
  refine ⟨fun f hf => (by rw [still_about _ _ ho] at hf; cases hf), ?_⟩
  rw [Oper.semAt_plain F _ _ (still_defer o ho)]
  have h2 := still_two (P := P) a.eval o ho w
  unfold goAt at hh
  generalize (execOp a.eval o).run P w = r at *
  cases r with
  | ok nx w' =>
    rcases h2 nx w' rfl with ⟨v, rfl⟩ | rfl
    · exact hh
    · exact hh
  | halt x w' => simp only [goUpon] at hh
theorem wpOpIn_of_go {i : Nat} (hs : ∀ o, ops[i]? = some o → stillOp o.op = true) {a : Act} {w : World} {K : Act → World → Prop} {Q' : Exit → Act → World → Prop} (hh : goOp P ops i K a w) : wpOpIn F n P ops Q' i K a w := by
  unfold goOp at hh
  unfold wpOpIn
  split
  · rename_i ho; simp only [ho] at hh; exact hh
  · rename_i o ho
    simp only [ho] at hh
    split
    · rename_i hw; simp only [hw, if_true] at hh; exact wpIn_of_go (hs o ho) hh
    · rename_i hw; simp only [hw] at hh; exact ⟨fun f hf => (by rw [still_about _ _ (hs o ho)] at hf; cases hf), hh⟩
theorem anyIn_of_go {Q : Act → World → Prop} {Q' : Exit → Act → World → Prop} (hs : ∀ (i : Nat) o, ops[i]? = some o → stillOp o.op = true) (hQ : ∀ a w, Q a w → Q' .normal a w) : ∀ (fuel : Nat) (listed : Array Bool) (a : Act) (w : World),
    anyGo P md ops C Q fuel listed a w → wpAnyIn F n P md ops Q' fuel listed a w
  | 0, _, _, _, h => ⟨h.1, hQ _ _ h.2⟩
  | fuel + 1, _, _, _, h => ⟨fun h0 => hQ _ _ (h.1 h0), fun i hi => wpOpIn_of_go (hs i) (goOp_mono (fun _ _ h' => anyIn_of_go hs hQ fuel _ _ _ h'.2) (h.2 i hi))⟩
theorem region_go_in (C : World → Prop) {id : Nat} {Q : Exit → Act → World → Prop} {a : Act} {w : World} {l : List Oper} (hm : P.follows .mixedOrders = true) (hs : (l.all fun o => stillOp o.op) = true)
    (h : anyGo P .any l.toArray C (Q .normal) l.length (Array.replicate l.length false) a w.drew) : (Code.region id l.toArray true).wpIn F n P Q a w := by
  refine wpIn_region_any hm ?_
  have h2 := anyIn_of_go (F := F) (n := n) (Q' := Q) (fun i o hi => by
    rw [List.all_eq_true] at hs
    exact hs o (List.mem_of_getElem? (by simpa using hi))) (fun _ _ h => h) _ _ _ _ h
  simpa using h2
/-- A plain operation, its outcome known. -/
theorem wpListIn_value {rest : List Oper} {o : Oper} {a : Act} {w w' : World} {Q : Exit → Act → World → Prop} {v : Value} (hgd : o.guard = none) (ho : stillOp o.op = true) (hr : (execOp a.eval o).run P w = .ok (.value v) w')
    (k : wpListIn F n P ops Q rest (a.put o.dst v) w') : wpListIn F n P ops Q (o :: rest) a w :=
  wpListIn_plain hgd fun K hK => wpIn_of_go ho (by unfold goAt; rw [hr]; exact hK _ _ k)
theorem wpListIn_none {rest : List Oper} {o : Oper} {a : Act} {w w' : World} {Q : Exit → Act → World → Prop} (hgd : o.guard = none) (ho : stillOp o.op = true) (hr : (execOp a.eval o).run P w = .ok .skip w')
    (k : wpListIn F n P ops Q rest (a.put o.dst undef) w') : wpListIn F n P ops Q (o :: rest) a w :=
  wpListIn_plain hgd fun K hK => wpIn_of_go ho (by unfold goAt; rw [hr]; exact hK _ _ k)
end
end Go.Proofs.YtoaipjpbioaneaaGreat
