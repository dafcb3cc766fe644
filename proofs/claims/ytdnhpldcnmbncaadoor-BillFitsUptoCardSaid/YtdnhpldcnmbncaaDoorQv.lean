/- Which operations never call: a walk that is quiet over them is a plain one. No program is named. -/
import Derived.Test.YtdnhpldcnmbncaaDoorQp
namespace Go.Proofs.YtdnhpldcnmbncaaDoor
open Go

/-- No operation of this kind calls a function. -/
def calm : Op → Bool
  | .move _ | .assign _ | .pick _ _ _ | .load _ _ | .binOp _ _ _ _ _ | .unOp _ _ _ | .convert _ _ _ | .slice _ _ _ _ _ | .fieldAddr _ _ _ | .field _ _ _ | .indexAddr _ _ _ | .index _ _ _ => true
  | .nilCheck _ => true
  | _ => false

theorem value_only {P : Program} (s : Sem Value) (w : World) (f : FuncId) (args : Array Value) (w' : World) : ((do pure (Next.value (← s)) : Sem Next)).run P w ≠ .ok (.enter f args) w' := by
  rw [Sem.run_bind]
  cases s.run P w <;> simp [Result.andThen]

theorem bind_only {P : Program} {α : Type} (s : Sem α) (k : α → Sem Next) (f : FuncId) (args : Array Value) (w' : World) (hk : ∀ v w, (k v).run P w ≠ .ok (.enter f args) w') (w : World) : (s >>= k).run P w ≠ .ok (.enter f args) w' := by
  rw [Sem.run_bind]
  cases s.run P w with
  | ok v w1 => exact hk v w1
  | halt x w1 => simp [Result.andThen]
theorem nil_only {P : Program} (ρ : Operand → Value) (o : Oper) (x : Operand) (ho : o.op = .nilCheck x) (w : World) (f : FuncId) (args : Array Value) (w' : World) :
    (execOp ρ o).run P w ≠ .ok (.enter f args) w' := by
  unfold execOp
  simp only [ho]
  split
  · simp [runtimePanic]
  · simp [runtimePanic]
  · simp [runtimePanic]
  · split
    · simp [runtimePanic]
    · refine bind_only _ _ _ _ _ (fun v w => bind_only _ _ _ _ _ (fun v w => ?_) w) w
      split
      · exact bind_only _ _ _ _ _ (fun v w => by simp) w
      · simp
    · simp
  · simp
theorem calm_only {P : Program} (ρ : Operand → Value) (o : Oper) (ho : calm o.op = true) (w : World) (f : FuncId) (args : Array Value) (w' : World) :
    (execOp ρ o).run P w ≠ .ok (.enter f args) w' := by
  cases hop : o.op <;> rw [hop] at ho <;> simp only [calm, Bool.false_eq_true] at ho
  case nilCheck x => exact nil_only ρ o x hop w f args w'
  case move x => unfold execOp; simp only [hop]; simp
  case assign x => unfold execOp; simp only [hop]; simp
  case pick c a b =>
    unfold execOp; simp only [hop]
    rw [Sem.run_bind]
    cases (asBool (ρ c)).run P w <;> simp [Result.andThen]
  all_goals (unfold execOp; simp only [hop]; exact value_only _ w f args w')

section
variable {P : Program} {ops : Array Oper} {C : World → Prop}
theorem plain_of_quiet : ∀ (l : List Oper) (a : Act) {Q : Act → Prop}, (l.all fun o => calm o.op) = true → wpQuiet P ops C Q l a → wpPlain P ops C Q l a
  | [], a, Q, _, h => h
  | o :: l, a, Q, hl, h => by
    simp only [List.all_cons, Bool.and_eq_true] at hl
    unfold wpQuiet at h
    unfold wpPlain
    by_cases hw : Region.wanted o (yielded ops a.tmps) = true
    · simp only [hw, if_true] at h ⊢
      obtain ⟨v, h1, h2⟩ := h
      refine ⟨v, fun w hC => ?_, plain_of_quiet l _ hl.2 h2⟩
      have h3 := h1 w hC
      have h4 := calm_only (P := P) a.eval o hl.1 w
      unfold Oper.quietAt at h3
      unfold plainAt
      generalize (execOp a.eval o).run P w = r at *
      cases r with
      | ok n w' =>
        cases n <;> simp only [Oper.quietUpon] at h3 <;> simp only [plainUpon]
        case value u => exact h3
        case skip => exact h3
        case enter f args => exact absurd rfl (h4 f args w')
      | halt x w' => simp only [Oper.quietUpon] at h3
    · simp only [hw] at h ⊢
      exact plain_of_quiet l _ hl.2 h
/-- One operation of the chain at the end, by its wp. -/
theorem chain_step {Q : Act → World → Prop} {o : Oper} {a : Act} {w : World} {rest : List Oper} (hg : o.guard = none)
    (h : ∀ K : Act → World → Prop, (∀ a w, C w → wpChain P ops C Q rest a w → K a w) → o.wp P a w K fun _ _ _ => False) : wpChain P ops C Q (o :: rest) a w := by
  unfold wpChain
  have : Region.wanted o (yielded ops a.tmps) = true := by simp [Region.wanted, hg]
  simp only [this, if_true]
  exact go_of_wp (h _ fun _ _ h1 h2 => ⟨h1, h2⟩)
theorem chain_nil {Q : Act → World → Prop} {a : Act} {w : World} (h : Q a w) : wpChain P ops C Q [] a w := h
end

/-- The region, its head by the quiet walk. -/
theorem region_calm_tail {P : Program} {C : World → Prop} {id : Nat} {Q : Exit → Act → World → Prop} {a : Act} {w : World} {l : List Oper} (n : Nat) (hm : P.follows .mixedOrders = true) (hB : plainTailB .any l.toArray n = true)
    (hcalm : ((l.take n).all fun o => calm o.op) = true) (hC : C w.drew)
    (h : wpQuiet P l.toArray C (fun a' => wpChain P l.toArray C (Q .normal) (l.drop n) a' w.drew) (l.take n) a) : (Code.region id l.toArray true).wp P Q a w :=
  region_plain_tail n hm hB hC (plain_of_quiet _ _ hcalm h)
end Go.Proofs.YtdnhpldcnmbncaaDoor
