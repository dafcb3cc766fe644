/- A region that draws its order: operations that only yield one and the same value in every world of a class, in whatever order, and a tail of others, each of which waits for the one ahead of it. One walk in the order of the text serves every order. No program is named. | Which operations never call: a walk that is quiet over them is a plain one. No program is named. -/
import Derived.Test.YthkfefkcjcgfkaaGreatDoorWa2
set_option linter.all false
namespace Go.Proofs.YthkfefkcjcgfkaaGreatDoor
open Go

section
variable {P : Program} {ops : Array Oper} {md : Region.Mode} {C : World → Prop}

/-- An operation is carried out and comes to an end without a panic. -/
def goUpon (P : Program) (o : Oper) (a : Act) (K : Act → World → Prop) : Result Next → Prop
  | .ok (.value u) w' => K (a.put o.dst u) w'
  | .ok .skip w' => K (a.put o.dst undef) w'
  | .ok (.defer d) w' => K ({ a with defers := d :: a.defers }.put o.dst undef) w'
  | .ok (.enter f args) w' => Calls P f args w' (fun e w'' => ∃ v, e = .returned v ∧ K (a.put o.dst v) w'')
  | .ok (.row row args) w' => Rows P row args w' fun v w'' => K (a.put o.dst v) w''
  | _ => False
def goAt (P : Program) (o : Oper) (a : Act) (w : World) (K : Act → World → Prop) : Prop := goUpon P o a K ((execOp a.eval o).run P w)
theorem go_of_wp {o : Oper} {a : Act} {w : World} {K : Act → World → Prop} (h : o.wp P a w K fun _ _ _ => False) : goAt P o a w K := by
  unfold Oper.wp at h
  unfold goAt
  generalize (execOp a.eval o).run P w = r at *
  cases r with
  | ok n w' =>
    cases n <;> simp only [Oper.upon] at h <;> simp only [goUpon]
    case value u => exact h
    case skip => exact h
    case defer d => exact h
    case row r args => exact h
    case enter f args =>
      refine h.mono fun e w'' hk => ?_
      cases e with
      | returned v => exact ⟨v, rfl, hk⟩
      | panicked c => exact hk.elim
      | outgrown => obtain ⟨_, _, hf⟩ := hk; exact hf.elim
  | halt x w' => cases x <;> simp only [Oper.upon] at h
def goOp (P : Program) (ops : Array Oper) (i : Nat) (K : Act → World → Prop) (a : Act) (w : World) : Prop :=
  match ops[i]? with
  | none => K a w
  | some o => if Region.wanted o (yielded ops a.tmps) then goAt P o a w K else K (a.put o.dst undef) w

theorem goAt_mono {o : Oper} {a : Act} {w : World} {K K' : Act → World → Prop} (h : ∀ a w, K a w → K' a w) (hh : goAt P o a w K) : goAt P o a w K' := by
  unfold goAt at *
  generalize (execOp a.eval o).run P w = r at *
  cases r with
  | ok n w' =>
    cases n <;> simp only [goUpon] at hh ⊢
    case enter f args => exact hh.mono fun e w'' ⟨v, he, hk⟩ => ⟨v, he, h _ _ hk⟩
    case row r args => exact hh.mono fun v w'' hk => h _ _ hk
    all_goals exact h _ _ hh
  | halt x w' => simp only [goUpon] at hh
theorem goOp_mono {i : Nat} {a : Act} {w : World} {K K' : Act → World → Prop} (h : ∀ a w, K a w → K' a w) (hh : goOp P ops i K a w) : goOp P ops i K' a w := by
  unfold goOp at *
  split
  · rename_i ho; simp only [ho] at hh; exact h _ _ hh
  · rename_i o ho
    simp only [ho] at hh
    split
    · rename_i hw; simp only [hw, if_true] at hh; exact goAt_mono h hh
    · rename_i hw; simp only [hw] at hh; exact h _ _ hh
theorem wp_of_go {o : Oper} {a : Act} {w : World} {K : Act → World → Prop} {Q' : Exit → Act → World → Prop} (hh : goAt P o a w K) : o.wp P a w K Q' := by
  unfold goAt at hh
  unfold Oper.wp
  generalize (execOp a.eval o).run P w = r at *
  cases r with
  | ok n w' =>
    cases n <;> simp only [goUpon] at hh <;> simp only [Oper.upon]
    case value u => exact hh
    case skip => exact hh
    case defer d => exact hh
    case row r args => exact hh
    case enter f args => exact hh.mono fun e w'' ⟨v, he, hk⟩ => by subst he; exact hk
  | halt x w' => simp only [goUpon] at hh
theorem wpOp_of_go {i : Nat} {a : Act} {w : World} {K : Act → World → Prop} {Q' : Exit → Act → World → Prop} (hh : goOp P ops i K a w) : wpOp P ops Q' i K a w := by
  unfold goOp at hh
  unfold wpOp
  split
  · rename_i ho; simp only [ho] at hh; exact hh
  · rename_i o ho
    simp only [ho] at hh
    split
    · rename_i hw; simp only [hw, if_true] at hh; exact .inl (wp_of_go hh)
    · rename_i hw; simp only [hw] at hh; exact hh

/-- Whatever order is picked from here on, each world of the class. -/
def anyGo (P : Program) (md : Region.Mode) (ops : Array Oper) (C : World → Prop) (Q : Act → World → Prop) : Nat → Array Bool → Act → World → Prop
  | 0, listed, a, w => Region.ready md ops listed = [] ∧ Q a w
  | fuel + 1, listed, a, w =>
    (Region.ready md ops listed = [] → Q a w) ∧
    ∀ i ∈ Region.ready md ops listed, goOp P ops i (fun a' w' => C w' ∧ anyGo P md ops C Q fuel (listed.setIfInBounds i true) a' w') a w
theorem any_of_go {Q : Act → World → Prop} {Q' : Exit → Act → World → Prop} (hQ : ∀ a w, Q a w → Q' .normal a w) : ∀ (fuel : Nat) (listed : Array Bool) (a : Act) (w : World),
    anyGo P md ops C Q fuel listed a w → wpAny P md ops Q' fuel listed a w
  | 0, _, _, _, h => ⟨h.1, hQ _ _ h.2⟩
  | fuel + 1, _, _, _, h => ⟨fun h0 => hQ _ _ (h.1 h0), fun i hi => wpOp_of_go (goOp_mono (fun _ _ h' => any_of_go hQ fuel _ _ _ h'.2) (h.2 i hi))⟩

/-- One value in every world of the class, and no world is changed. -/
def plainUpon (w : World) (v : Value) : Result Next → Prop
  | .ok (.value u) w' => w' = w ∧ u = v
  | .ok .skip w' => w' = w ∧ v = undef
  | _ => False
def plainAt (P : Program) (o : Oper) (a : Act) (w : World) (v : Value) : Prop := plainUpon w v ((execOp a.eval o).run P w)
def YieldsP (P : Program) (ops : Array Oper) (C : World → Prop) (o : Oper) (v : Value) (a : Act) : Prop :=
  (Region.wanted o (yielded ops a.tmps) = true ∧ ∀ w, C w → plainAt P o a w v) ∨ (Region.wanted o (yielded ops a.tmps) = false ∧ v = undef)
theorem YieldsP.of_same {o : Oper} {v : Value} {a a' : Act} (hy : YieldsP P ops C o v a) (he : execOp a'.eval o = execOp a.eval o)
    (hw : Region.wanted o (yielded ops a'.tmps) = Region.wanted o (yielded ops a.tmps)) : YieldsP P ops C o v a' := by
  unfold YieldsP plainAt at *
  rw [he, hw]
  exact hy
theorem YieldsP.goOp {i : Nat} {o : Oper} {v : Value} {a : Act} {w : World} (hC : C w) (hi : ops[i]? = some o) (hy : YieldsP P ops C o v a) {K : Act → World → Prop} (h : K (a.put o.dst v) w) : goOp P ops i K a w := by
  unfold Proofs.YthkfefkcjcgfkaaGreatDoor.goOp
  simp only [hi]
  rcases hy with ⟨hw, hv⟩ | ⟨hw, rfl⟩
  · simp only [hw, if_true]
    have h3 := hv w hC
    unfold plainAt at h3
    unfold goAt
    generalize (execOp a.eval o).run P w = r at *
    cases r with
    | ok n w' =>
      cases n <;> simp only [plainUpon] at h3 <;> simp only [goUpon]
      case value u => obtain ⟨rfl, rfl⟩ := h3; exact h
      case skip => obtain ⟨rfl, rfl⟩ := h3; exact h
    | halt x w' => simp only [plainUpon] at h3
  · simp only [hw, Bool.false_eq_true, if_false]; exact h

theorem goOp_put {j : Nat} {oi oj : Oper} {v : Value} (hj : ops[j]? = some oj) (hap : oi.apart ops oj = true)
    (hsi : ∀ cs b, oi.op ≠ .select cs b) (hsj : ∀ cs b, oj.op ≠ .select cs b) {K : Act → World → Prop} {a : Act} {w : World}
    (hy : YieldsP P ops C oi v a) (h : goOp P ops j K (a.put oi.dst v) w) :
    goOp P ops j (fun a' w' => YieldsP P ops C oi v a' ∧ K (a'.put oi.dst v) w') a w := by
  obtain ⟨h1, h2, h3⟩ := Oper.apart_spec hap
  have keep : ∀ (a : Act), YieldsP P ops C oi v a → ∀ u, YieldsP P ops C oi v (a.put oj.dst u) := fun a hy u =>
    hy.of_same (execOp_put oi hsi a oj.dst u h3) (wanted_put oi a oj.dst u h3)
  unfold goOp at *
  simp only [hj] at *
  rw [wanted_put oj a oi.dst v h1] at h
  split
  · rename_i hw
    simp only [hw, if_true] at h
    unfold goAt at *
    rw [execOp_put oj hsj a oi.dst v h1] at h
    generalize (execOp a.eval oj).run P w = r at *
    cases r with
    | ok n w' =>
      cases n <;> simp only [goUpon] at h ⊢
      case value u => exact ⟨keep a hy u, by rw [← Act.put_comm a v u h2]; exact h⟩
      case skip => exact ⟨keep a hy _, by rw [← Act.put_comm a v undef h2]; exact h⟩
      case defer d =>
        have e1 : ({ (a.put oi.dst v) with defers := d :: (a.put oi.dst v).defers } : Act) = ({ a with defers := d :: a.defers } : Act).put oi.dst v := by
          cases oi.dst <;> rfl
        have hy2 : YieldsP P ops C oi v { a with defers := d :: a.defers } := hy
        exact ⟨keep _ hy2 _, by rw [← Act.put_comm _ v undef h2, ← e1]; exact h⟩
      case row r args => exact h.mono fun u w'' hk => ⟨keep a hy u, by rw [← Act.put_comm a v u h2]; exact hk⟩
      case enter f args => exact h.mono fun e w'' ⟨u, he, hk⟩ => ⟨u, he, keep a hy u, by rw [← Act.put_comm a v u h2]; exact hk⟩
    | halt x w' => simp only [goUpon] at h
  · rename_i hw
    simp only [hw] at h
    exact ⟨keep a hy _, by rw [← Act.put_comm a v undef h2]; exact h⟩

theorem anyGo_first {Q : Act → World → Prop} {i : Nat} {oi : Oper} {v : Value} (hi : ops[i]? = some oi) (hsel : ∀ (j : Nat) (o : Oper) cs b, ops[j]? = some o → o.op ≠ .select cs b) :
    ∀ (fuel : Nat) (listed : Array Bool) (a : Act) (w : World), C w →
      (∀ j oj, ops[j]? = some oj → j ≠ i → listed.getD j true = false → (∀ e ∈ oj.after, Region.binds md e = true → e.on ≠ i) → oi.apart ops oj = true) →
      i ∈ Region.ready md ops listed → YieldsP P ops C oi v a →
      anyGo P md ops C Q fuel (listed.setIfInBounds i true) (a.put oi.dst v) w → anyGo P md ops C Q (fuel + 1) listed a w := by
  intro fuel
  induction fuel with
  | zero =>
    intro listed a w hC _ hr hy H
    refine ⟨fun h => (by rw [h] at hr; cases hr), fun j hj => ?_⟩
    by_cases hji : j = i
    · subst hji; exact hy.goOp hC hi ⟨hC, H⟩
    · have := ready_mono hj hji
      rw [H.1] at this
      cases this
  | succ fuel ih =>
    intro listed a w hC hfree hr hy H
    refine ⟨fun h => (by rw [h] at hr; cases hr), fun j hj => ?_⟩
    by_cases hji : j = i
    · subst hji; exact hy.goOp hC hi ⟨hC, H⟩
    · have h1 := H.2 j (ready_mono hj hji)
      obtain ⟨hjun, oj, hoj, hall⟩ := mem_ready.1 hj
      have hnot : ∀ e ∈ oj.after, Region.binds md e = true → e.on ≠ i := fun e he hb heq => by
        have h1 := hall e he hb
        rw [heq, getD_both (mem_ready.1 hr).1] at h1
        cases h1
      have h2 := goOp_put hoj (hfree j oj hoj hji hjun hnot) (fun cs b => hsel i oi cs b hi) (fun cs b => hsel j oj cs b hoj) hy h1
      have hfree' : ∀ k ok, ops[k]? = some ok → k ≠ i → (listed.setIfInBounds j true).getD k true = false →
          (∀ e ∈ ok.after, Region.binds md e = true → e.on ≠ i) → oi.apart ops ok = true := fun k ok hk hki hun hno => by
        refine hfree k ok hk hki ?_ hno
        by_cases hjk : j = k
        · subst hjk; exact hjun
        · rw [getD_set_ne true hjk] at hun; exact hun
      refine goOp_mono (fun a' w' h3 => ⟨h3.2.1, ih (listed.setIfInBounds j true) a' w' h3.2.1 hfree' (ready_mono hr (Ne.symm hji)) h3.1 ?_⟩) h2
      rw [Array.setIfInBounds_comm _ _ hji]
      exact h3.2.2

/-- The walk in the order of the text: the plain operations; then the others, one behind the other. -/
def wpPlain (P : Program) (ops : Array Oper) (C : World → Prop) (Q : Act → Prop) : List Oper → Act → Prop
  | [], a => Q a
  | o :: rest, a => if Region.wanted o (yielded ops a.tmps) then ∃ v, (∀ w, C w → plainAt P o a w v) ∧ wpPlain P ops C Q rest (a.put o.dst v) else wpPlain P ops C Q rest (a.put o.dst undef)
def wpChain (P : Program) (ops : Array Oper) (C : World → Prop) (Q : Act → World → Prop) : List Oper → Act → World → Prop
  | [], a, w => Q a w
  | o :: rest, a, w => if Region.wanted o (yielded ops a.tmps) then goAt P o a w (fun a' w' => C w' ∧ wpChain P ops C Q rest a' w') else C w ∧ wpChain P ops C Q rest (a.put o.dst undef) w

theorem anyGo_seq {Q : Act → World → Prop} : ∀ (l : List Oper) (k : Nat) (listed : Array Bool) (a : Act) (w : World), (∀ j, l[j]? = ops[k + j]?) →
    Region.seqB md ops l.length k listed = true → wpChain P ops C Q l a w → anyGo P md ops C Q l.length listed a w
  | [], _, _, _, _, _, hB, h => ⟨by simpa [Region.seqB] using hB, h⟩
  | o :: l, k, listed, a, w, hl, hB, h => by
    have h0 : ops[k]? = some o := by simpa using (hl 0).symm
    simp only [List.length_cons, Region.seqB, Bool.and_eq_true, decide_eq_true_eq] at hB
    refine ⟨fun h1 => (by rw [hB.1] at h1; cases h1), fun i hi => ?_⟩
    rw [hB.1] at hi
    have hik : i = k := by simpa using hi
    subst hik
    have hw : goOp P ops i (fun a' w' => C w' ∧ wpChain P ops C Q l a' w') a w := by unfold goOp; simp only [h0]; exact h
    exact goOp_mono (fun a' w' h' => ⟨h'.1, anyGo_seq l (i + 1) _ a' w' (fun j => by have := hl (j + 1); simpa [Nat.add_assoc, Nat.add_comm 1 j] using this) hB.2 h'.2⟩) hw

/-- What is asked of the region's edges: its first n operations may be taken in their order, and the rest stands in one order behind them. -/
def plainTailB (md : Region.Mode) (ops : Array Oper) (n : Nat) : Bool :=
  Region.noSelect ops && decide (n ≤ ops.size) && Region.lexHead md ops (ops.size - n) n 0 (Array.replicate ops.size false)

theorem anyGo_lex {g : Nat} {Q : Act → World → Prop} (hsel : Region.noSelect ops = true) (tail : List Oper) (n : Nat) (w : World) (hC : C w) (htl : tail.length = g) (htail : ∀ j, tail[j]? = ops[n + j]?) :
    ∀ (l : List Oper) (k : Nat) (listed : Array Bool) (a : Act), (∀ j, j < l.length → l[j]? = ops[k + j]?) → k + l.length = n →
    Region.lexHead md ops g l.length k listed = true → wpPlain P ops C (fun a' => wpChain P ops C Q tail a' w) l a → anyGo P md ops C Q (l.length + g) listed a w
  | [], k, listed, a, _, hk, hB, h => by
    have : k = n := by simpa using hk
    subst this
    have hB' : Region.seqB md ops g k listed = true := by simpa [Region.lexHead] using hB
    subst htl
    simpa using anyGo_seq tail k listed a w htail hB' h
  | o :: l, k, listed, a, hl, hk, hB, h => by
    have h0 : ops[k]? = some o := by simpa using (hl 0 (by simp)).symm
    simp only [List.length_cons, Region.lexHead, Bool.and_eq_true] at hB
    obtain ⟨⟨hr, hf⟩, hB'⟩ := hB
    have hr' : k ∈ Region.ready md ops listed := by simpa using hr
    have hy : ∃ v, YieldsP P ops C o v a ∧ wpPlain P ops C (fun a' => wpChain P ops C Q tail a' w) l (a.put o.dst v) := by
      unfold wpPlain at h
      by_cases hw : Region.wanted o (yielded ops a.tmps) = true
      · simp only [hw, if_true] at h
        obtain ⟨v, h1, h2⟩ := h
        exact ⟨v, .inl ⟨hw, h1⟩, h2⟩
      · simp only [hw] at h
        exact ⟨undef, .inr ⟨by simpa using hw, rfl⟩, h⟩
    obtain ⟨v, hy1, hy2⟩ := hy
    have := anyGo_first h0 (Region.noSelect_spec hsel) (l.length + g) listed a w hC (Region.free_spec h0 hf) hr' hy1
      (anyGo_lex hsel tail n w hC htl htail l (k + 1) _ _ (fun j hj => by have := hl (j + 1) (by simp; omega); simpa [Nat.add_assoc, Nat.add_comm 1 j] using this) (by simp only [List.length_cons] at hk; omega) hB' hy2)
    rw [List.length_cons, show l.length + 1 + g = l.length + g + 1 by omega]
    exact this

theorem region_plain_tail {id : Nat} {Q : Exit → Act → World → Prop} {a : Act} {w : World} {l : List Oper} (n : Nat) (hm : P.follows .mixedOrders = true) (hB : plainTailB .any l.toArray n = true)
    (hC : C w.drew)
    (h : wpPlain P l.toArray C (fun a' => wpChain P l.toArray C (Q .normal) (l.drop n) a' w.drew) (l.take n) a) : (Code.region id l.toArray true).wp P Q a w := by
  simp only [plainTailB, Bool.and_eq_true, decide_eq_true_eq] at hB
  obtain ⟨⟨hsel, hn⟩, hlex⟩ := hB
  have hn' : n ≤ l.length := by simpa using hn
  have htl : (l.take n).length = n := by simp; omega
  have hdl : (l.drop n).length = l.toArray.size - n := by simp
  refine wp_region_any hm ?_
  have := anyGo_lex (md := .any) (Q := Q .normal) hsel (l.drop n) n w.drew hC hdl (fun j => by simp [List.getElem?_drop]) (l.take n) 0 (Array.replicate l.toArray.size false) a (fun j hj => by
    have hj' : j < n := by rw [htl] at hj; exact hj
    simp [hj']) (by simpa using htl) (by rw [htl]; exact hlex) h
  rw [htl, show n + (l.toArray.size - n) = l.toArray.size by omega] at this
  exact any_of_go (fun _ _ h => h) _ _ _ _ this

end
end Go.Proofs.YthkfefkcjcgfkaaGreatDoor

namespace Go.Proofs.YthkfefkcjcgfkaaGreatDoor
open Go

/-- No operation of this kind calls a function. -/
def calm : Op → Bool
  | .move _ | .assign _ | .pick _ _ _ | .load _ _ | .binOp _ _ _ _ _ | .unOp _ _ _ | .convert _ _ _ | .slice _ _ _ _ _ | .fieldAddr _ _ _ | .field _ _ _ | .indexAddr _ _ _ | .index _ _ _ => true
  | .nilCheck _ => true
  | _ => false

theorem value_only {P : Program} (s : Sem Value) (w : World) (f : FuncId) (args : Array Value) (w' : World) : ((do pure (Next.value (← s)) : Sem Next)).run P w ≠ .ok (.enter f args) w' := by
  rw [Sem.run_bind]
  cases s.run P w <;> simp [Result.andThen]

theorem bind_only {P : Program} {α : Type} (s : Sem α) (k : α → Sem Next) (f : FuncId) (args : Array Value) (w' : World) (hk : ∀ v w, (k v).run P w ≠ .ok (.enter f args) w') (w : World) : (s >>= k).run P w ≠ .ok (.enter f args) w' := by
  rw [Sem.run_bind]
  cases s.run P w with
  | ok v w1 => exact hk v w1
  | halt x w1 => simp [Result.andThen]
theorem nil_only {P : Program} (ρ : Operand → Value) (o : Oper) (x : Operand) (ho : o.op = .nilCheck x) (w : World) (f : FuncId) (args : Array Value) (w' : World) :
    (execOp ρ o).run P w ≠ .ok (.enter f args) w' := by
  unfold execOp
  simp only [ho]
  split
  · simp [runtimePanic]
  · simp [runtimePanic]
  · simp [runtimePanic]
  · split
    · simp [runtimePanic]
    · refine bind_only _ _ _ _ _ (fun v w => bind_only _ _ _ _ _ (fun v w => ?_) w) w
      split
      · exact bind_only _ _ _ _ _ (fun v w => by simp) w
      · simp
    · simp
  · simp
theorem calm_only {P : Program} (ρ : Operand → Value) (o : Oper) (ho : calm o.op = true) (w : World) (f : FuncId) (args : Array Value) (w' : World) :
    (execOp ρ o).run P w ≠ .ok (.enter f args) w' := by
  cases hop : o.op <;> rw [hop] at ho <;> simp only [calm, Bool.false_eq_true] at ho
  case nilCheck x => exact nil_only ρ o x hop w f args w'
  case move x => unfold execOp; simp only [hop]; simp
  case assign x => unfold execOp; simp only [hop]; simp
  case pick c a b =>
    unfold execOp; simp only [hop]
    rw [Sem.run_bind]
    cases (asBool (ρ c)).run P w <;> simp [Result.andThen]
  all_goals (unfold execOp; simp only [hop]; exact value_only _ w f args w')

section
variable {P : Program} {ops : Array Oper} {C : World → Prop}
theorem plain_of_quiet : ∀ (l : List Oper) (a : Act) {Q : Act → Prop}, (l.all fun o => calm o.op) = true → wpQuiet P ops C Q l a → wpPlain P ops C Q l a
  | [], a, Q, _, h => h
  | o :: l, a, Q, hl, h => by
    simp only [List.all_cons, Bool.and_eq_true] at hl
    unfold wpQuiet at h
    unfold wpPlain
    by_cases hw : Region.wanted o (yielded ops a.tmps) = true
    · simp only [hw, if_true] at h ⊢
      obtain ⟨v, h1, h2⟩ := h
      refine ⟨v, fun w hC => ?_, plain_of_quiet l _ hl.2 h2⟩
      have h3 := h1 w hC
      have h4 := calm_only (P := P) a.eval o hl.1 w
      unfold Oper.quietAt at h3
      unfold plainAt
      generalize (execOp a.eval o).run P w = r at *
      cases r with
      | ok n w' =>
        cases n <;> simp only [Oper.quietUpon] at h3 <;> simp only [plainUpon]
        case value u => exact h3
        case skip => exact h3
        case enter f args => exact absurd rfl (h4 f args w')
      | halt x w' => simp only [Oper.quietUpon] at h3
    · simp only [hw] at h ⊢
      exact plain_of_quiet l _ hl.2 h
/-- One operation of the chain at the end, by its wp. -/
theorem chain_step {Q : Act → World → Prop} {o : Oper} {a : Act} {w : World} {rest : List Oper} (hg : o.guard = none)
    (h : ∀ K : Act → World → Prop, (∀ a w, C w → wpChain P ops C Q rest a w → K a w) → o.wp P a w K fun _ _ _ => False) : wpChain P ops C Q (o :: rest) a w := by
  unfold wpChain
  have : Region.wanted o (yielded ops a.tmps) = true := by simp [Region.wanted, hg]
  simp only [this, if_true]
  exact go_of_wp (h _ fun _ _ h1 h2 => ⟨h1, h2⟩)
theorem chain_nil {Q : Act → World → Prop} {a : Act} {w : World} (h : Q a w) : wpChain P ops C Q [] a w := h
end

/-- The region, its head by the quiet walk. -/
theorem region_calm_tail {P : Program} {C : World → Prop} {id : Nat} {Q : Exit → Act → World → Prop} {a : Act} {w : World} {l : List Oper} (n : Nat) (hm : P.follows .mixedOrders = true) (hB : plainTailB .any l.toArray n = true)
    (hcalm : ((l.take n).all fun o => calm o.op) = true) (hC : C w.drew)
    (h : wpQuiet P l.toArray C (fun a' => wpChain P l.toArray C (Q .normal) (l.drop n) a' w.drew) (l.take n) a) : (Code.region id l.toArray true).wp P Q a w :=
  region_plain_tail n hm hB hC (plain_of_quiet _ _ hcalm h)
end Go.Proofs.YthkfefkcjcgfkaaGreatDoor
