/- A region that draws its order, where calls and other steps race: a call that yields one value and keeps a class of worlds may go first, whatever else is to come (anyS_call); what makes or changes memory goes where it must (anyS_forced), or in each of its places (anyS_fork), and may narrow the class; the last one need keep nothing (anyS_last). No program is named. -/
import Derived.BigQuiet
import Derived.Test.YtdomennhoopggaaDoorQg
namespace Go.Proofs.YtdomennhoopggaaDoor
open Go

/-- Operations that never call. -/
def calm2 : Op → Bool
  | .extract _ _ | .build _ _ | .box _ _ | .lookup _ _ _ _ | .makeInterface _ _ | .typeAssert _ _ _ _ => true
  | .call { callee := .builtin b, .. } => match b with
    | .len | .cap | .min | .max => true
    | _ => false
  | o => calm o
theorem calm2_only {P : Program} (ρ : Operand → Value) (o : Oper) (ho : calm2 o.op = true) (w : World) (f : FuncId) (args : Array Value) (w' : World) :
    (execOp ρ o).run P w ≠ .ok (.enter f args) w' := by
  by_cases hc : calm o.op = true
  · exact calm_only ρ o hc w f args w'
  · cases hop : o.op <;> rw [hop] at ho hc <;> simp only [calm2, calm, Bool.false_eq_true, not_true_eq_false] at ho hc
    case call c =>
      obtain ⟨callee, xs, ats⟩ := c
      cases callee <;> simp only [Bool.false_eq_true] at ho
      case builtin b =>
        unfold execOp
        simp only [hop, resolve]
        cases b <;> simp only [Bool.false_eq_true] at ho
        all_goals (simp only [pure_bind, invoke, builtin]; exact value_only _ w f args w')
    all_goals (unfold execOp; simp only [hop]; exact value_only _ w f args w')

section
variable {P : Program} {ops : Array Oper} {md : Region.Mode} {B : World → Prop} {R : World → World → Prop}

/-- A class below B that a step of R doesn't leave. -/
def St (B : World → Prop) (R : World → World → Prop) (C : World → Prop) : Prop := (∀ w, C w → B w) ∧ ∀ w w', C w → R w w' → C w'
/-- It waits for every other. -/
def closing (md : Region.Mode) (ops : Array Oper) (i : Nat) : Bool := match ops[i]? with
  | none => false
  | some o => (List.range ops.size).all fun k => k == i || o.after.any fun e => Region.binds md e && e.on == k
theorem closing_spec {i k : Nat} {o : Oper} (h : closing md ops i = true) (hi : ops[i]? = some o) (hk : k < ops.size) (hne : k ≠ i) : ∃ e ∈ o.after, Region.binds md e = true ∧ e.on = k := by
  simp only [closing, hi, List.all_eq_true, List.mem_range, Bool.or_eq_true, beq_iff_eq] at h
  rcases h k hk with h | h
  · exact absurd h hne
  · obtain ⟨e, he, hb⟩ := Array.any_eq_true'.1 h
    simp only [Bool.and_eq_true, beq_iff_eq] at hb
    exact ⟨e, he, hb⟩

/-- Whatever order is picked from here on, in each world of the class. -/
def anyS (P : Program) (md : Region.Mode) (ops : Array Oper) (B : World → Prop) (R : World → World → Prop) (Q : Act → World → Prop) : Nat → Array Bool → Act → (World → Prop) → Prop
  | 0, listed, a, C => Region.ready md ops listed = [] ∧ ∀ w, C w → Q a w
  | fuel + 1, listed, a, C =>
    (Region.ready md ops listed = [] → ∀ w, C w → Q a w) ∧
    ∀ i ∈ Region.ready md ops listed, ∀ w, C w → goOp P ops i (fun a' w' => (∃ C', St B R C' ∧ C' w' ∧ anyS P md ops B R Q fuel (listed.setIfInBounds i true) a' C') ∨
      (closing md ops i = true ∧ Region.ready md ops (listed.setIfInBounds i true) = [] ∧ Q a' w')) a w
theorem any_of_S {Q : Act → World → Prop} {Q' : Exit → Act → World → Prop} (hQ : ∀ a w, Q a w → Q' .normal a w) : ∀ (fuel : Nat) (listed : Array Bool) (a : Act) (w : World) (C : World → Prop), C w →
    anyS P md ops B R Q fuel listed a C → wpAny P md ops Q' fuel listed a w
  | 0, _, _, w, _, hC, h => ⟨h.1, hQ _ _ (h.2 w hC)⟩
  | fuel + 1, listed, _, w, _, hC, h => ⟨fun h0 => hQ _ _ (h.1 h0 w hC), fun i hi => wpOp_of_go (goOp_mono (fun a' w' h' => by
      rcases h' with ⟨C', _, hC', h'⟩ | ⟨_, h0, h'⟩
      · exact any_of_S hQ fuel _ _ _ C' hC' h'
      · cases fuel with
        | zero => exact ⟨h0, hQ _ _ h'⟩
        | succ fuel => exact ⟨fun _ => hQ _ _ h', fun j hj => by rw [h0] at hj; cases hj⟩) (h.2 i hi w hC))⟩
/-- A narrower base serves. -/
theorem anyS_rebase {Q : Act → World → Prop} {B' : World → Prop} (hB : ∀ w, B' w → B w) : ∀ (fuel : Nat) (listed : Array Bool) (a : Act) (C : World → Prop), anyS P md ops B' R Q fuel listed a C → anyS P md ops B R Q fuel listed a C
  | 0, _, _, _, h => h
  | fuel + 1, _, _, _, h => ⟨h.1, fun i hi w hw => goOp_mono (fun _ _ h' => by
      rcases h' with ⟨C', hS, hC', h'⟩ | h'
      · exact .inl ⟨C', ⟨fun w hw => hB w (hS.1 w hw), hS.2⟩, hC', anyS_rebase hB fuel _ _ C' h'⟩
      · exact .inr h') (h.2 i hi w hw)⟩

/-- One value, in every world of the base, and a step of R. -/
def steadyUpon (P : Program) (v : Value) (K : World → Prop) : Result Next → Prop
  | .ok (.value u) w' => u = v ∧ K w'
  | .ok .skip w' => v = undef ∧ K w'
  | .ok (.enter f args) w' => Calls P f args w' (fun e w'' => e = .returned v ∧ K w'')
  | _ => False
def YieldsS (P : Program) (ops : Array Oper) (B : World → Prop) (R : World → World → Prop) (o : Oper) (v : Value) (a : Act) : Prop :=
  (Region.wanted o (yielded ops a.tmps) = true ∧ ∀ w, B w → steadyUpon P v (R w) ((execOp a.eval o).run P w)) ∨ (Region.wanted o (yielded ops a.tmps) = false ∧ v = undef)
theorem YieldsS.of_same {o : Oper} {v : Value} {a a' : Act} (hy : YieldsS P ops B R o v a) (he : execOp a'.eval o = execOp a.eval o)
    (hw : Region.wanted o (yielded ops a'.tmps) = Region.wanted o (yielded ops a.tmps)) : YieldsS P ops B R o v a' := by
  unfold YieldsS at *
  rw [he, hw]
  exact hy
theorem YieldsS.goOp (hR : ∀ w, R w w) {i : Nat} {o : Oper} {v : Value} {a : Act} {w : World} (hB : B w) (hi : ops[i]? = some o) (hy : YieldsS P ops B R o v a) {K : Act → World → Prop} (h : ∀ w', R w w' → K (a.put o.dst v) w') : goOp P ops i K a w := by
  unfold Proofs.YtdomennhoopggaaDoor.goOp
  simp only [hi]
  rcases hy with ⟨hw, hv⟩ | ⟨hw, rfl⟩
  · simp only [hw, if_true]
    have h3 := hv w hB
    unfold goAt
    generalize (execOp a.eval o).run P w = r at *
    cases r with
    | ok n w' =>
      cases n <;> simp only [steadyUpon] at h3 <;> simp only [goUpon]
      case value u => obtain ⟨rfl, h4⟩ := h3; exact h _ h4
      case skip => obtain ⟨rfl, h4⟩ := h3; exact h _ h4
      case enter f args => exact h3.mono fun e w'' ⟨he, h4⟩ => ⟨v, he, h _ h4⟩
    | halt x w' => simp only [steadyUpon] at h3
  · simp only [hw, Bool.false_eq_true, if_false]; exact h _ (hR w)
theorem goOp_putS {j : Nat} {oi oj : Oper} {v : Value} (hj : ops[j]? = some oj) (hap : oi.apart ops oj = true)
    (hsi : ∀ cs b, oi.op ≠ .select cs b) (hsj : ∀ cs b, oj.op ≠ .select cs b) {K : Act → World → Prop} {a : Act} {w : World}
    (hy : YieldsS P ops B R oi v a) (h : goOp P ops j K (a.put oi.dst v) w) :
    goOp P ops j (fun a' w' => YieldsS P ops B R oi v a' ∧ K (a'.put oi.dst v) w') a w := by
  obtain ⟨h1, h2, h3⟩ := Oper.apart_spec hap
  have keep : ∀ (a : Act), YieldsS P ops B R oi v a → ∀ u, YieldsS P ops B R oi v (a.put oj.dst u) := fun a hy u =>
    hy.of_same (execOp_put oi hsi a oj.dst u h3) (wanted_put oi a oj.dst u h3)
  unfold goOp at *
  simp only [hj] at *
  rw [wanted_put oj a oi.dst v h1] at h
  split
  · rename_i hw
    simp only [hw, if_true] at h
    unfold goAt at *
    rw [execOp_put oj hsj a oi.dst v h1] at h
    generalize (execOp a.eval oj).run P w = r at *
    cases r with
    | ok n w' =>
      cases n <;> simp only [goUpon] at h ⊢
      case value u => exact ⟨keep a hy u, by rw [← Act.put_comm a v u h2]; exact h⟩
      case skip => exact ⟨keep a hy _, by rw [← Act.put_comm a v undef h2]; exact h⟩
      case defer d =>
        have e1 : ({ (a.put oi.dst v) with defers := d :: (a.put oi.dst v).defers } : Act) = ({ a with defers := d :: a.defers } : Act).put oi.dst v := by
          cases oi.dst <;> rfl
        have hy2 : YieldsS P ops B R oi v { a with defers := d :: a.defers } := hy
        exact ⟨keep _ hy2 _, by rw [← Act.put_comm _ v undef h2, ← e1]; exact h⟩
      case row r args => exact h.mono fun u w'' hk => ⟨keep a hy u, by rw [← Act.put_comm a v u h2]; exact hk⟩
      case enter f args => exact h.mono fun e w'' ⟨u, he, hk⟩ => ⟨u, he, keep a hy u, by rw [← Act.put_comm a v u h2]; exact hk⟩
    | halt x w' => simp only [goUpon] at h
  · rename_i hw
    simp only [hw] at h
    exact ⟨keep a hy _, by rw [← Act.put_comm a v undef h2]; exact h⟩

theorem anyS_first {Q : Act → World → Prop} {i : Nat} {oi : Oper} {v : Value} (hR : ∀ w, R w w) (hi : ops[i]? = some oi) (hsel : ∀ (j : Nat) (o : Oper) cs b, ops[j]? = some o → o.op ≠ .select cs b) :
    ∀ (fuel : Nat) (listed : Array Bool) (a : Act) (C : World → Prop), St B R C →
      (∀ j oj, ops[j]? = some oj → j ≠ i → listed.getD j true = false → (∀ e ∈ oj.after, Region.binds md e = true → e.on ≠ i) → oi.apart ops oj = true) →
      i ∈ Region.ready md ops listed → YieldsS P ops B R oi v a →
      anyS P md ops B R Q fuel (listed.setIfInBounds i true) (a.put oi.dst v) C → anyS P md ops B R Q (fuel + 1) listed a C := by
  have hlt : i < ops.size := (Array.getElem?_eq_some_iff.1 hi).1
  intro fuel
  induction fuel with
  | zero =>
    intro listed a C hS _ hr hy H
    refine ⟨fun h => (by rw [h] at hr; cases hr), fun j hj w hw => ?_⟩
    by_cases hji : j = i
    · subst hji; exact hy.goOp hR (hS.1 w hw) hi fun w' h => .inl ⟨C, hS, hS.2 w w' hw h, H⟩
    · have := ready_mono hj hji
      rw [H.1] at this
      cases this
  | succ fuel ih =>
    intro listed a C hS hfree hr hy H
    refine ⟨fun h => (by rw [h] at hr; cases hr), fun j hj w hw => ?_⟩
    by_cases hji : j = i
    · subst hji; exact hy.goOp hR (hS.1 w hw) hi fun w' h => .inl ⟨C, hS, hS.2 w w' hw h, H⟩
    · have h1 := H.2 j (ready_mono hj hji) w hw
      obtain ⟨hjun, oj, hoj, hall⟩ := mem_ready.1 hj
      have hnot : ∀ e ∈ oj.after, Region.binds md e = true → e.on ≠ i := fun e he hb heq => by
        have h1 := hall e he hb
        rw [heq, getD_both (mem_ready.1 hr).1] at h1
        cases h1
      have h2 := goOp_putS hoj (hfree j oj hoj hji hjun hnot) (fun cs b => hsel i oi cs b hi) (fun cs b => hsel j oj cs b hoj) hy h1
      have hfree' : ∀ k ok, ops[k]? = some ok → k ≠ i → (listed.setIfInBounds j true).getD k true = false →
          (∀ e ∈ ok.after, Region.binds md e = true → e.on ≠ i) → oi.apart ops ok = true := fun k ok hk hki hun hno => by
        refine hfree k ok hk hki ?_ hno
        by_cases hjk : j = k
        · subst hjk; exact hjun
        · rw [getD_set_ne true hjk] at hun; exact hun
      refine goOp_mono (fun a' w' h3 => ?_) h2
      obtain ⟨hy', ⟨C', hS', hC', h4⟩ | ⟨hcl, _⟩⟩ := h3
      · refine .inl ⟨C', hS', hC', ih (listed.setIfInBounds j true) a' C' hS' hfree' (ready_mono hr (Ne.symm hji)) hy' ?_⟩
        rw [Array.setIfInBounds_comm _ _ hji]
        exact h4
      · obtain ⟨e, he, hb, hon⟩ := closing_spec hcl hoj hlt (Ne.symm hji)
        exact absurd hon (hnot e he hb)

/-- A call goes first. -/
theorem anyS_call {Q : Act → World → Prop} {C : World → Prop} {fuel : Nat} {listed : Array Bool} {a : Act} {o : Oper} (k : Nat) (v : Value) (hR : ∀ w, R w w) (hS : St B R C) (hsel : Region.noSelect ops = true) (h0 : ops[k]? = some o)
    (hr : (Region.ready md ops listed).contains k = true) (hf : Region.free md ops listed k = true) (hw : Region.wanted o (yielded ops a.tmps) = true) {f : FuncId} {args : Array Value}
    (hc : ∀ w, B w → Calls P f args w fun e w' => e = .returned v ∧ R w w') (hrun : ∀ w, B w → (execOp a.eval o).run P w = .ok (.enter f args) w)
    (h : anyS P md ops B R Q fuel (listed.setIfInBounds k true) (a.put o.dst v) C) : anyS P md ops B R Q (fuel + 1) listed a C :=
  anyS_first hR h0 (Region.noSelect_spec hsel) fuel listed a C hS (Region.free_spec h0 hf) (by simpa using hr) (.inl ⟨hw, fun w hB => by rw [hrun w hB]; exact hc w hB⟩) h
theorem anyS_plains {Q : Act → World → Prop} {C : World → Prop} {fuel : Nat} (hR : ∀ w, R w w) (hS : St B R C) (hsel : Region.noSelect ops = true) :
    ∀ (is : List Nat) (listed : Array Bool) (a : Act), headG md ops is listed = true → wpPlain P ops B (fun a' => anyS P md ops B R Q fuel (marked is listed) a' C) (nth ops is) a → anyS P md ops B R Q (is.length + fuel) listed a C
  | [], listed, a, _, h => by
    rw [List.length_nil, Nat.zero_add]; exact h
  | k :: is, listed, a, hB, h => by
    simp only [headG, Bool.and_eq_true] at hB
    obtain ⟨⟨hr, hf⟩, hB'⟩ := hB
    have hr' : k ∈ Region.ready md ops listed := by simpa using hr
    obtain ⟨_, o, h0, _⟩ := mem_ready.1 hr'
    rw [nth_cons is h0] at h
    have hy : ∃ v, YieldsS P ops B R o v a ∧ wpPlain P ops B (fun a' => anyS P md ops B R Q fuel (marked is (listed.setIfInBounds k true)) a' C) (nth ops is) (a.put o.dst v) := by
      unfold wpPlain at h
      by_cases hw : Region.wanted o (yielded ops a.tmps) = true
      · simp only [hw, if_true] at h
        obtain ⟨v, h1, h2⟩ := h
        refine ⟨v, .inl ⟨hw, fun w hBw => ?_⟩, h2⟩
        have h3 := h1 w hBw
        unfold plainAt at h3
        generalize (execOp a.eval o).run P w = r at *
        cases r with
        | ok n w' =>
          cases n <;> simp only [plainUpon] at h3 <;> simp only [steadyUpon]
          case value u => obtain ⟨rfl, rfl⟩ := h3; exact ⟨rfl, hR _⟩
          case skip => obtain ⟨rfl, rfl⟩ := h3; exact ⟨rfl, hR _⟩
        | halt x w' => simp only [plainUpon] at h3
      · simp only [hw] at h
        exact ⟨undef, .inr ⟨by simpa using hw, rfl⟩, h⟩
    obtain ⟨v, hy1, hy2⟩ := hy
    have := anyS_first hR h0 (Region.noSelect_spec hsel) (is.length + fuel) listed a C hS (Region.free_spec h0 hf) hr' hy1 (anyS_plains hR hS hsel is _ _ hB' hy2)
    rw [List.length_cons, show is.length + 1 + fuel = is.length + fuel + 1 by omega]
    exact this
theorem plain_of_quiet2 {C : World → Prop} : ∀ (l : List Oper) (a : Act) {Q : Act → Prop}, (l.all fun o => calm2 o.op) = true → wpQuiet P ops C Q l a → wpPlain P ops C Q l a
  | [], a, Q, _, h => h
  | o :: l, a, Q, hl, h => by
    simp only [List.all_cons, Bool.and_eq_true] at hl
    unfold wpQuiet at h
    unfold wpPlain
    by_cases hw : Region.wanted o (yielded ops a.tmps) = true
    · simp only [hw, if_true] at h ⊢
      obtain ⟨v, h1, h2⟩ := h
      refine ⟨v, fun w hC => ?_, plain_of_quiet2 l _ hl.2 h2⟩
      have h3 := h1 w hC
      have h4 := calm2_only (P := P) a.eval o hl.1 w
      unfold Oper.quietAt at h3
      unfold plainAt
      generalize (execOp a.eval o).run P w = r at *
      cases r with
      | ok n w' =>
        cases n <;> simp only [Oper.quietUpon] at h3 <;> simp only [plainUpon]
        case value u => exact h3
        case skip => exact h3
        case enter f args => exact absurd rfl (h4 f args w')
      | halt x w' => simp only [Oper.quietUpon] at h3
    · simp only [hw] at h ⊢
      exact plain_of_quiet2 l _ hl.2 h
/-- Calm ones at these places go first. -/
theorem anyS_calms {l : List Oper} {Q : Act → World → Prop} {C : World → Prop} {fuel : Nat} {listed : Array Bool} {a : Act} (is : List Nat) (fuel' : Nat) (hf : fuel = is.length + fuel') (hR : ∀ w, R w w) (hS : St B R C) (hsel : Region.noSelect l.toArray = true) (hB : headG md l.toArray is listed = true)
    (hcalm : ((nth l.toArray is).all fun o => calm2 o.op) = true)
    (h : wpQuiet P l.toArray B (fun a' => anyS P md l.toArray B R Q fuel' (marked is listed) a' C) (nth l.toArray is) a) : anyS P md l.toArray B R Q fuel listed a C := by
  subst hf
  exact anyS_plains hR hS hsel is listed a hB (plain_of_quiet2 _ _ hcalm h)
/-- One that must go next. -/
theorem anyS_forced {Q : Act → World → Prop} {C : World → Prop} {fuel : Nat} {listed : Array Bool} {a : Act} {o : Oper} (k : Nat) (hr : Region.ready md ops listed = [k]) (h0 : ops[k]? = some o) (hw : Region.wanted o (yielded ops a.tmps) = true)
    (h : ∀ w, C w → ∀ K : Act → World → Prop, (∀ a w' C', St B R C' → C' w' → anyS P md ops B R Q fuel (listed.setIfInBounds k true) a C' → K a w') → o.wp P a w K fun _ _ _ => False) : anyS P md ops B R Q (fuel + 1) listed a C := by
  refine ⟨fun h1 => (by rw [hr] at h1; cases h1), fun i hi w hC => ?_⟩
  rw [hr] at hi
  obtain rfl : i = k := by simpa using hi
  unfold goOp
  simp only [h0, hw, if_true]
  exact go_of_wp (h w hC _ fun a' w' C' h1 h2 h3 => .inl ⟨C', h1, h2, h3⟩)
/-- The last one. -/
theorem anyS_last {Q : Act → World → Prop} {C : World → Prop} {fuel : Nat} {listed : Array Bool} {a : Act} {o : Oper} (k : Nat) (hr : Region.ready md ops listed = [k]) (h0 : ops[k]? = some o) (hw : Region.wanted o (yielded ops a.tmps) = true) (hcl : closing md ops k = true) (he : Region.ready md ops (listed.setIfInBounds k true) = [])
    (h : ∀ w, C w → ∀ K : Act → World → Prop, (∀ a w', Q a w' → K a w') → o.wp P a w K fun _ _ _ => False) : anyS P md ops B R Q (fuel + 1) listed a C := by
  refine ⟨fun h1 => (by rw [hr] at h1; cases h1), fun i hi w hC => ?_⟩
  rw [hr] at hi
  obtain rfl : i = k := by simpa using hi
  unfold goOp
  simp only [h0, hw, if_true]
  exact go_of_wp (h w hC _ fun a' w' h1 => .inr ⟨hcl, he, h1⟩)
/-- Two of which either may go next. -/
theorem anyS_fork {Q : Act → World → Prop} {C : World → Prop} {fuel : Nat} {listed : Array Bool} {a : Act} {o o2 : Oper} (i j : Nat) (hr : Region.ready md ops listed = [i, j]) (hi0 : ops[i]? = some o) (hiw : Region.wanted o (yielded ops a.tmps) = true) (hj0 : ops[j]? = some o2) (hjw : Region.wanted o2 (yielded ops a.tmps) = true)
    (hi : ∀ w, C w → ∀ K : Act → World → Prop, (∀ a w' C', St B R C' → C' w' → anyS P md ops B R Q fuel (listed.setIfInBounds i true) a C' → K a w') → o.wp P a w K fun _ _ _ => False)
    (hj : ∀ w, C w → ∀ K : Act → World → Prop, (∀ a w' C', St B R C' → C' w' → anyS P md ops B R Q fuel (listed.setIfInBounds j true) a C' → K a w') → o2.wp P a w K fun _ _ _ => False) : anyS P md ops B R Q (fuel + 1) listed a C := by
  refine ⟨fun h1 => (by rw [hr] at h1; cases h1), fun k hk w hC => ?_⟩
  rw [hr] at hk
  unfold goOp
  obtain rfl | rfl : k = i ∨ k = j := by simpa using hk
  · simp only [hi0, hiw, if_true]
    exact go_of_wp (hi w hC _ fun a' w' C' h1 h2 h3 => .inl ⟨C', h1, h2, h3⟩)
  · simp only [hj0, hjw, if_true]
    exact go_of_wp (hj w hC _ fun a' w' C' h1 h2 h3 => .inl ⟨C', h1, h2, h3⟩)
theorem anyS_done {Q : Act → World → Prop} {C : World → Prop} {listed : Array Bool} {a : Act} (hr : (Region.ready md ops listed).isEmpty = true) (h : ∀ w, C w → Q a w) : anyS P md ops B R Q 0 listed a C := ⟨by simpa using hr, h⟩
end
/-- The region. -/
theorem region_steady {P : Program} (B : World → Prop) (R : World → World → Prop) {id : Nat} {Q : Exit → Act → World → Prop} {a : Act} {w : World} {l : List Oper} (hm : P.follows .mixedOrders = true) (hC : B w.drew)
    (h : anyS P .any l.toArray B R (Q .normal) l.length (Array.replicate l.length false) a B) : (Code.region id l.toArray true).wp P Q a w := by
  refine wp_region_any hm ?_
  have h2 := any_of_S (fun _ _ h => h) _ _ _ _ _ hC h
  simpa using h2
end Go.Proofs.YtdomennhoopggaaDoor
