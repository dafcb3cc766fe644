/- A region that draws its order, where calls and other steps race: a call that yields one value and keeps a class of worlds may go first, whatever else is to come (anyS_call); what makes or changes memory goes where it must (anyS_forced), or in each of its places (anyS_fork), and may narrow the class; the last one need keep nothing (anyS_last). No program is named. | KeysSpoilt: rows of bytes that may be written over; the walk of the law. -/
import Derived.BigQuiet
import Derived.Lib.ConvBytes
import Derived.Test.YtbnmdieadaeeiaaGreatDoorQg
import Derived.Test.YtbnmdieadaeeiaaGreatDoorMKd
namespace Go.Proofs.YtbnmdieadaeeiaaGreatDoor
open Go

/-- Operations that never call. -/
def calm2 : Op → Bool
  | .extract _ _ | .build _ _ | .box _ _ | .lookup _ _ _ _ | .makeInterface _ _ | .typeAssert _ _ _ _ => true
  | .call { callee := .builtin b, .. } => match b with
    | .len | .cap | .min | .max => true
    | _ => false
  | o => calm o
theorem calm2_only {P : Program} (ρ : Operand → Value) (o : Oper) (ho : calm2 o.op = true) (w : World) (f : FuncId) (args : Array Value) (w' : World) :
    (execOp ρ o).run P w ≠ .ok (.enter f args) w' := by
  by_cases hc : calm o.op = true
  · exact calm_only ρ o hc w f args w'
  · cases hop : o.op <;> rw [hop] at ho hc <;> simp only [calm2, calm, Bool.false_eq_true, not_true_eq_false] at ho hc
    case call c =>
      obtain ⟨callee, xs, ats⟩ := c
      cases callee <;> simp only [Bool.false_eq_true] at ho
      case builtin b =>
        unfold execOp
        simp only [hop, resolve]
        cases b <;> simp only [Bool.false_eq_true] at ho
        all_goals (simp only [pure_bind, invoke, builtin]; exact value_only _ w f args w')
    all_goals (unfold execOp; simp only [hop]; exact value_only _ w f args w')

section
variable {P : Program} {ops : Array Oper} {md : Region.Mode} {B : World → Prop} {R : World → World → Prop}

/-- A class below B that a step of R doesn't leave. -/
def St (B : World → Prop) (R : World → World → Prop) (C : World → Prop) : Prop := (∀ w, C w → B w) ∧ ∀ w w', C w → R w w' → C w'
/-- It waits for every other. -/
def closing (md : Region.Mode) (ops : Array Oper) (i : Nat) : Bool := match ops[i]? with
  | none => false
  | some o => (List.range ops.size).all fun k => k == i || o.after.any fun e => Region.binds md e && e.on == k
theorem closing_spec {i k : Nat} {o : Oper} (h : closing md ops i = true) (hi : ops[i]? = some o) (hk : k < ops.size) (hne : k ≠ i) : ∃ e ∈ o.after, Region.binds md e = true ∧ e.on = k := by
  simp only [closing, hi, List.all_eq_true, List.mem_range, Bool.or_eq_true, beq_iff_eq] at h
  rcases h k hk with h | h
  · exact absurd h hne
  · obtain ⟨e, he, hb⟩ := Array.any_eq_true'.1 h
    simp only [Bool.and_eq_true, beq_iff_eq] at hb
    exact ⟨e, he, hb⟩

/-- Whatever order is picked from here on, in each world of the class. -/
def anyS (P : Program) (md : Region.Mode) (ops : Array Oper) (B : World → Prop) (R : World → World → Prop) (Q : Act → World → Prop) : Nat → Array Bool → Act → (World → Prop) → Prop
  | 0, listed, a, C => Region.ready md ops listed = [] ∧ ∀ w, C w → Q a w
  | fuel + 1, listed, a, C =>
    (Region.ready md ops listed = [] → ∀ w, C w → Q a w) ∧
    ∀ i ∈ Region.ready md ops listed, ∀ w, C w → goOp P ops i (fun a' w' => (∃ C', St B R C' ∧ C' w' ∧ anyS P md ops B R Q fuel (listed.setIfInBounds i true) a' C') ∨
      (closing md ops i = true ∧ Region.ready md ops (listed.setIfInBounds i true) = [] ∧ Q a' w')) a w
theorem any_of_S {Q : Act → World → Prop} {Q' : Exit → Act → World → Prop} (hQ : ∀ a w, Q a w → Q' .normal a w) : ∀ (fuel : Nat) (listed : Array Bool) (a : Act) (w : World) (C : World → Prop), C w →
    anyS P md ops B R Q fuel listed a C → wpAny P md ops Q' fuel listed a w
  | 0, _, _, w, _, hC, h => ⟨h.1, hQ _ _ (h.2 w hC)⟩
  | fuel + 1, listed, _, w, _, hC, h => ⟨fun h0 => hQ _ _ (h.1 h0 w hC), fun i hi => wpOp_of_go (goOp_mono (fun a' w' h' => by
      rcases h' with ⟨C', _, hC', h'⟩ | ⟨_, h0, h'⟩
      · exact any_of_S hQ fuel _ _ _ C' hC' h'
      · cases fuel with
        | zero => exact ⟨h0, hQ _ _ h'⟩
        | succ fuel => exact ⟨fun _ => hQ _ _ h', fun j hj => by rw [h0] at hj; cases hj⟩) (h.2 i hi w hC))⟩
/-- A narrower base serves. -/
theorem anyS_rebase {Q : Act → World → Prop} {B' : World → Prop} (hB : ∀ w, B' w → B w) : ∀ (fuel : Nat) (listed : Array Bool) (a : Act) (C : World → Prop), anyS P md ops B' R Q fuel listed a C → anyS P md ops B R Q fuel listed a C
  | 0, _, _, _, h => h
  | fuel + 1, _, _, _, h => ⟨h.1, fun i hi w hw => goOp_mono (fun _ _ h' => by
      rcases h' with ⟨C', hS, hC', h'⟩ | h'
      · exact .inl ⟨C', ⟨fun w hw => hB w (hS.1 w hw), hS.2⟩, hC', anyS_rebase hB fuel _ _ C' h'⟩
      · exact .inr h') (h.2 i hi w hw)⟩

/-- One value, in every world of the base, and a step of R. -/
def steadyUpon (P : Program) (v : Value) (K : World → Prop) : Result Next → Prop
  | .ok (.value u) w' => u = v ∧ K w'
  | .ok .skip w' => v = undef ∧ K w'
  | .ok (.enter f args) w' => Calls P f args w' (fun e w'' => e = .returned v ∧ K w'')
  | _ => False
def YieldsS (P : Program) (ops : Array Oper) (B : World → Prop) (R : World → World → Prop) (o : Oper) (v : Value) (a : Act) : Prop :=
  (Region.wanted o (yielded ops a.tmps) = true ∧ ∀ w, B w → steadyUpon P v (R w) ((execOp a.eval o).run P w)) ∨ (Region.wanted o (yielded ops a.tmps) = false ∧ v = undef)
theorem YieldsS.of_same {o : Oper} {v : Value} {a a' : Act} (hy : YieldsS P ops B R o v a) (he : execOp a'.eval o = execOp a.eval o)
    (hw : Region.wanted o (yielded ops a'.tmps) = Region.wanted o (yielded ops a.tmps)) : YieldsS P ops B R o v a' := by
  unfold YieldsS at *
  rw [he, hw]
  exact hy
theorem YieldsS.goOp (hR : ∀ w, R w w) {i : Nat} {o : Oper} {v : Value} {a : Act} {w : World} (hB : B w) (hi : ops[i]? = some o) (hy : YieldsS P ops B R o v a) {K : Act → World → Prop} (h : ∀ w', R w w' → K (a.put o.dst v) w') : goOp P ops i K a w := by
  unfold Proofs.YtbnmdieadaeeiaaGreatDoor.goOp
  simp only [hi]
  rcases hy with ⟨hw, hv⟩ | ⟨hw, rfl⟩
  · simp only [hw, if_true]
    have h3 := hv w hB
    unfold goAt
    generalize (execOp a.eval o).run P w = r at *
    cases r with
    | ok n w' =>
      cases n <;> simp only [steadyUpon] at h3 <;> simp only [goUpon]
      case value u => obtain ⟨rfl, h4⟩ := h3; exact h _ h4
      case skip => obtain ⟨rfl, h4⟩ := h3; exact h _ h4
      case enter f args => exact h3.mono fun e w'' ⟨he, h4⟩ => ⟨v, he, h _ h4⟩
    | halt x w' => simp only [steadyUpon] at h3
  · simp only [hw, Bool.false_eq_true, if_false]; exact h _ (hR w)
theorem goOp_putS {j : Nat} {oi oj : Oper} {v : Value} (hj : ops[j]? = some oj) (hap : oi.apart ops oj = true)
    (hsi : ∀ cs b, oi.op ≠ .select cs b) (hsj : ∀ cs b, oj.op ≠ .select cs b) {K : Act → World → Prop} {a : Act} {w : World}
    (hy : YieldsS P ops B R oi v a) (h : goOp P ops j K (a.put oi.dst v) w) :
    goOp P ops j (fun a' w' => YieldsS P ops B R oi v a' ∧ K (a'.put oi.dst v) w') a w := by
  obtain ⟨h1, h2, h3⟩ := Oper.apart_spec hap
  have keep : ∀ (a : Act), YieldsS P ops B R oi v a → ∀ u, YieldsS P ops B R oi v (a.put oj.dst u) := fun a hy u =>
    hy.of_same (execOp_put oi hsi a oj.dst u h3) (wanted_put oi a oj.dst u h3)
  unfold goOp at *
  simp only [hj] at *
  rw [wanted_put oj a oi.dst v h1] at h
  split
  · rename_i hw
    simp only [hw, if_true] at h
    unfold goAt at *
    rw [execOp_put oj hsj a oi.dst v h1] at h
    generalize (execOp a.eval oj).run P w = r at *
    cases r with
    | ok n w' =>
      cases n <;> simp only [goUpon] at h ⊢
      case value u => exact ⟨keep a hy u, by rw [← Act.put_comm a v u h2]; exact h⟩
      case skip => exact ⟨keep a hy _, by rw [← Act.put_comm a v undef h2]; exact h⟩
      case defer d =>
        have e1 : ({ (a.put oi.dst v) with defers := d :: (a.put oi.dst v).defers } : Act) = ({ a with defers := d :: a.defers } : Act).put oi.dst v := by
          cases oi.dst <;> rfl
        have hy2 : YieldsS P ops B R oi v { a with defers := d :: a.defers } := hy
        exact ⟨keep _ hy2 _, by rw [← Act.put_comm _ v undef h2, ← e1]; exact h⟩
      case row r args => exact h.mono fun u w'' hk => ⟨keep a hy u, by rw [← Act.put_comm a v u h2]; exact hk⟩
      case enter f args => exact h.mono fun e w'' ⟨u, he, hk⟩ => ⟨u, he, keep a hy u, by rw [← Act.put_comm a v u h2]; exact hk⟩
    | halt x w' => simp only [goUpon] at h
  · rename_i hw
    simp only [hw] at h
    exact ⟨keep a hy _, by rw [← Act.put_comm a v undef h2]; exact h⟩

theorem anyS_first {Q : Act → World → Prop} {i : Nat} {oi : Oper} {v : Value} (hR : ∀ w, R w w) (hi : ops[i]? = some oi) (hsel : ∀ (j : Nat) (o : Oper) cs b, ops[j]? = some o → o.op ≠ .select cs b) :
    ∀ (fuel : Nat) (listed : Array Bool) (a : Act) (C : World → Prop), St B R C →
      (∀ j oj, ops[j]? = some oj → j ≠ i → listed.getD j true = false → (∀ e ∈ oj.after, Region.binds md e = true → e.on ≠ i) → oi.apart ops oj = true) →
      i ∈ Region.ready md ops listed → YieldsS P ops B R oi v a →
      anyS P md ops B R Q fuel (listed.setIfInBounds i true) (a.put oi.dst v) C → anyS P md ops B R Q (fuel + 1) listed a C := by
  have hlt : i < ops.size := (Array.getElem?_eq_some_iff.1 hi).1
  intro fuel
  induction fuel with
  | zero =>
    intro listed a C hS _ hr hy H
    refine ⟨fun h => (by rw [h] at hr; cases hr), fun j hj w hw => ?_⟩
    by_cases hji : j = i
    · subst hji; exact hy.goOp hR (hS.1 w hw) hi fun w' h => .inl ⟨C, hS, hS.2 w w' hw h, H⟩
    · have := ready_mono hj hji
      rw [H.1] at this
      cases this
  | succ fuel ih =>
    intro listed a C hS hfree hr hy H
    refine ⟨fun h => (by rw [h] at hr; cases hr), fun j hj w hw => ?_⟩
    by_cases hji : j = i
    · subst hji; exact hy.goOp hR (hS.1 w hw) hi fun w' h => .inl ⟨C, hS, hS.2 w w' hw h, H⟩
    · have h1 := H.2 j (ready_mono hj hji) w hw
      obtain ⟨hjun, oj, hoj, hall⟩ := mem_ready.1 hj
      have hnot : ∀ e ∈ oj.after, Region.binds md e = true → e.on ≠ i := fun e he hb heq => by
        have h1 := hall e he hb
        rw [heq, getD_both (mem_ready.1 hr).1] at h1
        cases h1
      have h2 := goOp_putS hoj (hfree j oj hoj hji hjun hnot) (fun cs b => hsel i oi cs b hi) (fun cs b => hsel j oj cs b hoj) hy h1
      have hfree' : ∀ k ok, ops[k]? = some ok → k ≠ i → (listed.setIfInBounds j true).getD k true = false →
          (∀ e ∈ ok.after, Region.binds md e = true → e.on ≠ i) → oi.apart ops ok = true := fun k ok hk hki hun hno => by
        refine hfree k ok hk hki ?_ hno
        by_cases hjk : j = k
        · subst hjk; exact hjun
        · rw [getD_set_ne true hjk] at hun; exact hun
      refine goOp_mono (fun a' w' h3 => ?_) h2
      obtain ⟨hy', ⟨C', hS', hC', h4⟩ | ⟨hcl, _⟩⟩ := h3
      · refine .inl ⟨C', hS', hC', ih (listed.setIfInBounds j true) a' C' hS' hfree' (ready_mono hr (Ne.symm hji)) hy' ?_⟩
        rw [Array.setIfInBounds_comm _ _ hji]
        exact h4
      · obtain ⟨e, he, hb, hon⟩ := closing_spec hcl hoj hlt (Ne.symm hji)
        exact absurd hon (hnot e he hb)

/-- A call goes first. -/
theorem anyS_call {Q : Act → World → Prop} {C : World → Prop} {fuel : Nat} {listed : Array Bool} {a : Act} {o : Oper} (k : Nat) (v : Value) (hR : ∀ w, R w w) (hS : St B R C) (hsel : Region.noSelect ops = true) (h0 : ops[k]? = some o)
    (hr : (Region.ready md ops listed).contains k = true) (hf : Region.free md ops listed k = true) (hw : Region.wanted o (yielded ops a.tmps) = true) {f : FuncId} {args : Array Value}
    (hc : ∀ w, B w → Calls P f args w fun e w' => e = .returned v ∧ R w w') (hrun : ∀ w, B w → (execOp a.eval o).run P w = .ok (.enter f args) w)
    (h : anyS P md ops B R Q fuel (listed.setIfInBounds k true) (a.put o.dst v) C) : anyS P md ops B R Q (fuel + 1) listed a C :=
  anyS_first hR h0 (Region.noSelect_spec hsel) fuel listed a C hS (Region.free_spec h0 hf) (by simpa using hr) (.inl ⟨hw, fun w hB => by rw [hrun w hB]; exact hc w hB⟩) h
theorem anyS_plains {Q : Act → World → Prop} {C : World → Prop} {fuel : Nat} (hR : ∀ w, R w w) (hS : St B R C) (hsel : Region.noSelect ops = true) :
    ∀ (is : List Nat) (listed : Array Bool) (a : Act), headG md ops is listed = true → wpPlain P ops B (fun a' => anyS P md ops B R Q fuel (marked is listed) a' C) (nth ops is) a → anyS P md ops B R Q (is.length + fuel) listed a C
  | [], listed, a, _, h => by
    rw [List.length_nil, Nat.zero_add]; exact h
  | k :: is, listed, a, hB, h => by
    simp only [headG, Bool.and_eq_true] at hB
    obtain ⟨⟨hr, hf⟩, hB'⟩ := hB
    have hr' : k ∈ Region.ready md ops listed := by simpa using hr
    obtain ⟨_, o, h0, _⟩ := mem_ready.1 hr'
    rw [nth_cons is h0] at h
    have hy : ∃ v, YieldsS P ops B R o v a ∧ wpPlain P ops B (fun a' => anyS P md ops B R Q fuel (marked is (listed.setIfInBounds k true)) a' C) (nth ops is) (a.put o.dst v) := by
      unfold wpPlain at h
      by_cases hw : Region.wanted o (yielded ops a.tmps) = true
      · simp only [hw, if_true] at h
        obtain ⟨v, h1, h2⟩ := h
        refine ⟨v, .inl ⟨hw, fun w hBw => ?_⟩, h2⟩
        have h3 := h1 w hBw
        unfold plainAt at h3
        generalize (execOp a.eval o).run P w = r at *
        cases r with
        | ok n w' =>
          cases n <;> simp only [plainUpon] at h3 <;> simp only [steadyUpon]
          case value u => obtain ⟨rfl, rfl⟩ := h3; exact ⟨rfl, hR _⟩
          case skip => obtain ⟨rfl, rfl⟩ := h3; exact ⟨rfl, hR _⟩
        | halt x w' => simp only [plainUpon] at h3
      · simp only [hw] at h
        exact ⟨undef, .inr ⟨by simpa using hw, rfl⟩, h⟩
    obtain ⟨v, hy1, hy2⟩ := hy
    have := anyS_first hR h0 (Region.noSelect_spec hsel) (is.length + fuel) listed a C hS (Region.free_spec h0 hf) hr' hy1 (anyS_plains hR hS hsel is _ _ hB' hy2)
    rw [List.length_cons, show is.length + 1 + fuel = is.length + fuel + 1 by omega]
    exact this
theorem plain_of_quiet2 {C : World → Prop} : ∀ (l : List Oper) (a : Act) {Q : Act → Prop}, (l.all fun o => calm2 o.op) = true → wpQuiet P ops C Q l a → wpPlain P ops C Q l a
  | [], a, Q, _, h => h
  | o :: l, a, Q, hl, h => by
    simp only [List.all_cons, Bool.and_eq_true] at hl
    unfold wpQuiet at h
    unfold wpPlain
    by_cases hw : Region.wanted o (yielded ops a.tmps) = true
    · simp only [hw, if_true] at h ⊢
      obtain ⟨v, h1, h2⟩ := h
      refine ⟨v, fun w hC => ?_, plain_of_quiet2 l _ hl.2 h2⟩
      have h3 := h1 w hC
      have h4 := calm2_only (P := P) a.eval o hl.1 w
      unfold Oper.quietAt at h3
      unfold plainAt
      generalize (execOp a.eval o).run P w = r at *
      cases r with
      | ok n w' =>
        cases n <;> simp only [Oper.quietUpon] at h3 <;> simp only [plainUpon]
        case value u => exact h3
        case skip => exact h3
        case enter f args => exact absurd rfl (h4 f args w')
      | halt x w' => simp only [Oper.quietUpon] at h3
    · simp only [hw] at h ⊢
      exact plain_of_quiet2 l _ hl.2 h
/-- Calm ones at these places go first. -/
theorem anyS_calms {l : List Oper} {Q : Act → World → Prop} {C : World → Prop} {fuel : Nat} {listed : Array Bool} {a : Act} (is : List Nat) (fuel' : Nat) (hf : fuel = is.length + fuel') (hR : ∀ w, R w w) (hS : St B R C) (hsel : Region.noSelect l.toArray = true) (hB : headG md l.toArray is listed = true)
    (hcalm : ((nth l.toArray is).all fun o => calm2 o.op) = true)
    (h : wpQuiet P l.toArray B (fun a' => anyS P md l.toArray B R Q fuel' (marked is listed) a' C) (nth l.toArray is) a) : anyS P md l.toArray B R Q fuel listed a C := by
  subst hf
  exact anyS_plains hR hS hsel is listed a hB (plain_of_quiet2 _ _ hcalm h)
/-- One that must go next. -/
theorem anyS_forced {Q : Act → World → Prop} {C : World → Prop} {fuel : Nat} {listed : Array Bool} {a : Act} {o : Oper} (k : Nat) (hr : Region.ready md ops listed = [k]) (h0 : ops[k]? = some o) (hw : Region.wanted o (yielded ops a.tmps) = true)
    (h : ∀ w, C w → ∀ K : Act → World → Prop, (∀ a w' C', St B R C' → C' w' → anyS P md ops B R Q fuel (listed.setIfInBounds k true) a C' → K a w') → o.wp P a w K fun _ _ _ => False) : anyS P md ops B R Q (fuel + 1) listed a C := by
  refine ⟨fun h1 => (by rw [hr] at h1; cases h1), fun i hi w hC => ?_⟩
  rw [hr] at hi
  obtain rfl : i = k := by simpa using hi
  unfold goOp
  simp only [h0, hw, if_true]
  exact go_of_wp (h w hC _ fun a' w' C' h1 h2 h3 => .inl ⟨C', h1, h2, h3⟩)
/-- The last one. -/
theorem anyS_last {Q : Act → World → Prop} {C : World → Prop} {fuel : Nat} {listed : Array Bool} {a : Act} {o : Oper} (k : Nat) (hr : Region.ready md ops listed = [k]) (h0 : ops[k]? = some o) (hw : Region.wanted o (yielded ops a.tmps) = true) (hcl : closing md ops k = true) (he : Region.ready md ops (listed.setIfInBounds k true) = [])
    (h : ∀ w, C w → ∀ K : Act → World → Prop, (∀ a w', Q a w' → K a w') → o.wp P a w K fun _ _ _ => False) : anyS P md ops B R Q (fuel + 1) listed a C := by
  refine ⟨fun h1 => (by rw [hr] at h1; cases h1), fun i hi w hC => ?_⟩
  rw [hr] at hi
  obtain rfl : i = k := by simpa using hi
  unfold goOp
  simp only [h0, hw, if_true]
  exact go_of_wp (h w hC _ fun a' w' h1 => .inr ⟨hcl, he, h1⟩)
/-- Two of which either may go next. -/
theorem anyS_fork {Q : Act → World → Prop} {C : World → Prop} {fuel : Nat} {listed : Array Bool} {a : Act} {o o2 : Oper} (i j : Nat) (hr : Region.ready md ops listed = [i, j]) (hi0 : ops[i]? = some o) (hiw : Region.wanted o (yielded ops a.tmps) = true) (hj0 : ops[j]? = some o2) (hjw : Region.wanted o2 (yielded ops a.tmps) = true)
    (hi : ∀ w, C w → ∀ K : Act → World → Prop, (∀ a w' C', St B R C' → C' w' → anyS P md ops B R Q fuel (listed.setIfInBounds i true) a C' → K a w') → o.wp P a w K fun _ _ _ => False)
    (hj : ∀ w, C w → ∀ K : Act → World → Prop, (∀ a w' C', St B R C' → C' w' → anyS P md ops B R Q fuel (listed.setIfInBounds j true) a C' → K a w') → o2.wp P a w K fun _ _ _ => False) : anyS P md ops B R Q (fuel + 1) listed a C := by
  refine ⟨fun h1 => (by rw [hr] at h1; cases h1), fun k hk w hC => ?_⟩
  rw [hr] at hk
  unfold goOp
  obtain rfl | rfl : k = i ∨ k = j := by simpa using hk
  · simp only [hi0, hiw, if_true]
    exact go_of_wp (hi w hC _ fun a' w' C' h1 h2 h3 => .inl ⟨C', h1, h2, h3⟩)
  · simp only [hj0, hjw, if_true]
    exact go_of_wp (hj w hC _ fun a' w' C' h1 h2 h3 => .inl ⟨C', h1, h2, h3⟩)
theorem anyS_done {Q : Act → World → Prop} {C : World → Prop} {listed : Array Bool} {a : Act} (hr : (Region.ready md ops listed).isEmpty = true) (h : ∀ w, C w → Q a w) : anyS P md ops B R Q 0 listed a C := ⟨by simpa using hr, h⟩
end
/-- The region. -/
theorem region_steady {P : Program} (B : World → Prop) (R : World → World → Prop) {id : Nat} {Q : Exit → Act → World → Prop} {a : Act} {w : World} {l : List Oper} (hm : P.follows .mixedOrders = true) (hC : B w.drew)
    (h : anyS P .any l.toArray B R (Q .normal) l.length (Array.replicate l.length false) a B) : (Code.region id l.toArray true).wp P Q a w := by
  refine wp_region_any hm ?_
  have h2 := any_of_S (fun _ _ h => h) _ _ _ _ _ hC h
  simpa using h2
end Go.Proofs.YtbnmdieadaeeiaaGreatDoor

namespace Go.Proofs.YtbnmdieadaeeiaaGreatDoor
open Go Go.ChangeShapes Go.WideShapes Go.ChangeAt Go.RowKit Go.ChangeMaps

/-- A row of bytes whose cells may be written over. -/
def ByAt (w : World) (g : Nat) (l : List UInt8) : Prop := ∃ (cur : Array Value) (fz : Nat × Nat), w.heap[g]? = some (.cells cur 5 fz) ∧ l.length ≤ fz.1 ∧ ∀ j, j < l.length → cur[j]? = (l.map yc)[j]?
theorem bytesWorld_belowL (w : World) (e : TypeId) (s : ByteArray) : Below w.heap.size w (Lib.bytesWorld w e s) :=
  ⟨rfl, rfl, rfl, by rw [Lib.bytesWorld_size]; omega, fun k hk => Lib.bytesWorld_at_old w e s k hk⟩
theorem ByAt.made (w : World) (s : ByteArray) : ByAt (Lib.bytesWorld w 5 s) w.heap.size s.data.toList := by
  have hge := grownCap_ge w s.size 0 5
  have hl : s.data.toList.length = s.size := data_len s
  have hz : s.data.size = s.size := rfl
  refine ⟨Lib.bytesCells w 5 s, _, Lib.bytesWorld_at_new w _ s, by simp [Lib.bytesCells], fun j hj => ?_⟩
  rw [Lib.bytesCells, Array.getElem?_append_left (by simp; omega)]
  simp only [Array.getElem?_map, List.getElem?_map, Array.getElem?_toList]
  rfl
theorem ByAt.lt {w : World} {g : Nat} {l : List UInt8} (h : ByAt w g l) : g < w.heap.size := by
  obtain ⟨_, _, hg, _⟩ := h
  exact (Array.getElem?_eq_some_iff.1 hg).1
theorem ByAt.ty {w : World} {g : Nat} {l : List UInt8} (h : ByAt w g l) : ∃ cs fz, w.heap[g]? = some (.cells cs 5 fz) := by
  obtain ⟨cs, fz, hg, _⟩ := h
  exact ⟨cs, fz, hg⟩
theorem ByAt.of {w w' : World} {g : Nat} {l : List UInt8} (h : ByAt w g l) (he : w'.heap[g]? = w.heap[g]?) : ByAt w' g l := by
  obtain ⟨cs, fz, hg, r⟩ := h
  exact ⟨cs, fz, he.trans hg, r⟩
theorem ByAt.here {w w' : World} {g : Nat} {l : List UInt8} (h : ByAt w g l) (hb : Below w.heap.size w w') : ByAt w' g l := h.of (hb.block g h.lt)
theorem ByAt.cell {w : World} {g : Nat} {l : List UInt8} (h : ByAt w g l) (j : Nat) (hj : j < l.length) : w.cell? ⟨g, j, none⟩ = some (.int .u8 (((l[j]).toNat : Nat) : Int)) := by
  obtain ⟨cs, fz, hg, _, hc⟩ := h
  rw [cell_of_row w g j cs _ _ hg, hc j hj]
  simp [hj, yc, Y]
theorem ByAt.free {w : World} {g : Nat} {l : List UInt8} (h : ByAt w g l) (j : Nat) (hj : j < l.length) : w.frozen? ⟨g, j, none⟩ = false := by
  obtain ⟨cs, fz, hg, hf, _⟩ := h
  unfold World.frozen?
  simp only [hg]
  simp; omega
theorem ByAt.text {w : World} {g : Nat} {l : List UInt8} (h : ByAt w g l) (c : Nat) : (convert 49 9 (.slice (some ⟨g, 0, none⟩) l.length c)).run Tryz.prog w = .ok (.string ⟨l.toArray⟩) w := by
  have hc : ∀ i, i < l.length → w.cell? ⟨g, 0 + i, none⟩ = some (.int .u8 ((l.map Y).getD i 0)) := by
    intro i hi
    rw [Nat.zero_add, h.cell i hi]
    simp [List.getD, hi]
    rfl
  have := run_convert_bytes_arg (P := Tryz.prog) w 49 5 Tryz.underlying49 Tryz.underlying5 g 0 l.length c (l.map Y) (by simp) hc 9 Tryz.underlying9
  rw [Y_back] at this; exact this
theorem ByAt.set {w : World} {g : Nat} {l : List UInt8} (h : ByAt w g l) (j : Nat) (x : UInt8) : ByAt (w.setCell ⟨g, j, none⟩ (.int .u8 ((x.toNat : Nat) : Int))) g (l.set j x) := by
  obtain ⟨cs, fz, hg, hf, hc⟩ := h
  refine ⟨cs.setIfInBounds j (.int .u8 ((x.toNat : Nat) : Int)), fz, by simp [World.setCell, Array.getElem?_modify, hg], by simpa using hf, fun i hi => ?_⟩
  rw [List.length_set] at hi
  have h1 := hc i hi
  by_cases hji : j = i
  · subst hji
    have hlt : j < cs.size := by
      rcases Nat.lt_or_ge j cs.size with h | h
      · exact h
      · rw [Array.getElem?_eq_none h] at h1
        simp [hi] at h1
    simp [hi, hlt, yc, Y]
  · simpa [Array.getElem?_setIfInBounds_ne hji, List.getElem?_set_ne hji] using h1
theorem xor8 (a b : Nat) : ∃ y : UInt8, bits .xor .u8 (a : Int) (b : Int) = ((y.toNat : Nat) : Int) := by
  refine ⟨UInt8.ofNat (BitVec.ofInt 8 (a : Int) ^^^ BitVec.ofInt 8 (b : Int)).toNat, ?_⟩
  show IntKind.u8.wrap ((BitVec.ofInt 8 (a : Int) ^^^ BitVec.ofInt 8 (b : Int)).toNat : Int) = _
  rw [IntKind.wrap_u8, UInt8.toNat_ofNat']
  omega
/-- The changes, a key of the document's, beside what else is. -/
structure SpA (w0 w : World) (bc bw : Nat) (cs : List Value) (s : ByteArray) (h : Nat) : Prop where
  blk : Blk w bc cs 48
  ref : QKey w bw s h 0
  kis : KIs w
  bel : Below w0.heap.size w0 w
  k0 : KIs w0
theorem SpA.here {w0 w w' : World} {bc bw : Nat} {cs : List Value} {s : ByteArray} {h : Nat} (a : SpA w0 w bc bw cs s h) (hb : Below w.heap.size w w') : SpA w0 w' bc bw cs s h :=
  ⟨(chg0 (S := fun _ => False) hb).blk a.blk (fun h => h), a.ref.here hb, a.kis.below hb a.kis.lt, mono_bel a.bel hb (Nat.le_refl _), a.k0⟩
/-- A byte is written over. -/
theorem SpA.put {w0 w : World} {bc bw g : Nat} {cs : List Value} {s : ByteArray} {h : Nat} {l : List UInt8} (a : SpA w0 w bc bw cs s h) (y : ByAt w g l) (hg : w0.heap.size ≤ g) (j : Nat) (v : Value) : SpA w0 (w.setCell ⟨g, j, none⟩ v) bc bw cs s h := by
  obtain ⟨cu, fz, hy⟩ := y.ty
  have hc : Pk.Chg (fun i => i = g) w (w.setCell ⟨g, j, none⟩ v) := Pk.Chg.setCell (S := fun i => i = g) (Pk.Chg.refl _ w) (p := ⟨g, j, none⟩) rfl v
  refine ⟨hc.blk a.blk fun e => ?_, a.ref.keep hc fun i t hi hS hty => ?_, a.kis.chg hc fun e => ?_, a.bel.trans (hc.below a.bel.size fun i hi => by omega), a.k0⟩
  · have h1 := a.blk
    unfold Blk at h1
    rw [e, hy] at h1
    cases h1
  · obtain rfl : i = g := hS
    obtain ⟨c2, h2⟩ := hty
    rw [hy] at h2
    cases h2
    decide
  · have := a.k0.lt
    omega
theorem ByAt.text' {w : World} {g n : Nat} {l : List UInt8} (h : ByAt w g l) (hn : l.length = n) (c : Nat) {z : ByteArray} (hz : z = ⟨l.toArray⟩) : (convert 49 9 (.slice (some ⟨g, 0, none⟩) n c)).run Tryz.prog w = .ok (.string z) w := by
  subst hn hz
  exact h.text c
/-- .. beside two rows of bytes (or one, told twice). -/
structure SpB (w0 w : World) (bc bw : Nat) (cs : List Value) (s : ByteArray) (h g : Nat) (l : List UInt8) (g2 : Nat) (l2 : List UInt8) : Prop where
  a : SpA w0 w bc bw cs s h
  y : ByAt w g l
  y2 : ByAt w g2 l2
theorem SpB.here {w0 w w' : World} {bc bw g g2 : Nat} {cs : List Value} {s : ByteArray} {h : Nat} {l l2 : List UInt8} (b : SpB w0 w bc bw cs s h g l g2 l2) (hb : Below w.heap.size w w') : SpB w0 w' bc bw cs s h g l g2 l2 :=
  ⟨b.a.here hb, b.y.here hb, b.y2.here hb⟩
theorem SpB.st {w0 : World} {bc bw g g2 : Nat} {cs : List Value} {s : ByteArray} {h : Nat} {l l2 : List UInt8} : St (fun w => SpB w0 w bc bw cs s h g l g2 l2) (fun w w' => Below w.heap.size w w') (fun w => SpB w0 w bc bw cs s h g l g2 l2) :=
  ⟨fun _ h => h, fun _ _ h hb => h.here hb⟩
theorem SpB.cls {w0 w : World} {bc bw g g2 : Nat} {cs : List Value} {s : ByteArray} {h : Nat} {l l2 : List UInt8} (b : SpB w0 w bc bw cs s h g l g2 l2) {f : FuncId} {args : Array Value} {r : Value}
    (hC : Calls Tryz.prog f args w fun e w' => e = .returned r ∧ Below w.heap.size w w') : Calls Tryz.prog f args w fun e w' => e = .returned r ∧ SpB w0 w' bc bw cs s h g l g2 l2 :=
  hC.mono fun _ _ ⟨he, hb⟩ => ⟨he, b.here hb⟩
set_option maxHeartbeats 6400000 in
set_option maxRecDepth 100000 in
theorem spoilt_any (s t o : ByteArray) (x nn at_ bi : Nat) (w : World) (hK : KIs w) (hs : s.size ≤ 140737488351232) (ht : t.size ≤ 140737488351232) (ho : o.size ≤ 140737488351232) (hx : x < 256) (hn : nn < 256) (ha : at_ < 65536) (_hb : bi < 256) :
    Calls Tryz.prog 5 #[.string s, .int .u8 (x : Int), .agg #[.string t, .string o, .int .u8 (nn : Int), .int .u16 (at_ : Int), .int .u8 (bi : Int)]] w fun e w' => e = .returned (.bool true) ∧ Below w.heap.size w w' := by
  obtain ⟨h, hh⟩ : ∃ h, x % 4 = h := ⟨_, rfl⟩
  have hh4 : h ≤ 4 := by omega
  have hmod : (x : Int).tmod 4 = (h : Int) := by rw [Int.tmod_eq_emod_of_nonneg (by omega)]; omega
  obtain ⟨m, hm⟩ : ∃ m, 2 ^ h = m := ⟨_, rfl⟩
  have hpi : (2 : Int) ^ h = (m : Int) := by rw [← hm]; simp
  have hm0 : 0 < m := by rw [← hm]; exact Nat.two_pow_pos h
  have hm16 : m ≤ 16 := by rw [← hm]; exact pow_le h hh4
  obtain ⟨n, hnn⟩ : ∃ n, nn % m = n := ⟨_, rfl⟩
  have hN : (nn : Int).tmod (m : Int) = (n : Int) := by rw [Int.tmod_eq_emod_of_nonneg (by omega), ← hnn]; simp
  have hnm : n < 2 ^ h := by rw [hm, ← hnn]; exact Nat.mod_lt _ hm0
  have hSg := fun w1 (hK : KIs w1) => signs_key w1 hK
  have hRef := fun w1 => r6new_ok s h w1 hh4 hs
  have hAt := fun b w1 (q : QKey w1 b s h 0) => r6at_any b s t h 0 n w1 q hnm hs ht
  have hID := fun b w1 (q : QKey w1 b s h 0) => r6ID_any b s h 0 w1 q
  have hnot : ∀ (x : Bool) (w : World), (Op.unary .not (.bool x)).run Tryz.prog w = .ok (.bool (!x)) w := fun _ _ => rfl
  have hVb : verE (keyID s h) t (keyS s h n t) = 0 := ver_back s h n t hh4 hnm
  have hzs : (keyS s h n t).size = 291 + 32 * h := keyS_size s h n t
  have hys : (keyID s h).size = 32 := idV_size _ _
  obtain ⟨z, hz⟩ : ∃ z, keyS s h n t = z := ⟨_, rfl⟩
  obtain ⟨y, hy⟩ : ∃ y, keyID s h = y := ⟨_, rfl⟩
  rw [hz] at hVb hzs hAt
  rw [hy] at hVb hys hID
  have hKB := Box.mk hK
  replace hSg := Box.mk hSg
  replace hRef := Box.mk hRef
  replace hAt := Box.mk hAt
  replace hID := Box.mk hID
  replace hVb := Box.mk hVb
  replace hzs := Box.mk hzs
  replace hys := Box.mk hys

  replace hs := Box.mk hs
  replace ht := Box.mk ht
  replace ho := Box.mk ho
  replace hnn := Box.mk hnn
  replace hx := Box.mk hx

  have hb0 : Box (Blk (w.alloc (.cells [Value.string t, .string o, .int .u8 (nn : Int), .int .u16 (at_ : Int), .int .u8 (bi : Int)].toArray 48)) w.heap.size [Value.string t, .string o, .int .u8 (nn : Int), .int .u16 (at_ : Int), .int .u8 (bi : Int)] 48) := ⟨Blk.new w _ _⟩
  obtain ⟨w0, hw0⟩ : ∃ w0, w.alloc (.cells #[Value.string t, .string o, .int .u8 (nn : Int), .int .u16 (at_ : Int), .int .u8 (bi : Int)] 48) = w0 := ⟨_, rfl⟩
  have hbel0 : Below w.heap.size w w0 := by rw [← hw0]; exact (Below.refl _ _).alloc (Nat.le_refl _) _
  rw [show w.alloc (.cells [Value.string t, .string o, .int .u8 (nn : Int), .int .u16 (at_ : Int), .int .u8 (bi : Int)].toArray 48) = w0 from hw0] at hb0
  obtain ⟨bc, hbc⟩ : ∃ bc, w.heap.size = bc := ⟨_, rfl⟩
  have hbc' := Box.mk hbc
  rw [hbc] at hb0
  have hF := hSg.out w0 (hKB.out.below hbel0 hKB.out.lt)
  replace hbel0 := Box.mk hbel0
  clear hK hh hm hnm hz hy
  go_enter Tryz.func5, Tryz.ntmps5
  go_wp2_with fail
  refine hF.mono ?_
  clear hF hSg hw0 hbc
  rintro e w1 ⟨rfl, hb1⟩
  have hB1 := Box.mk (mono_bel hbel0.out hb1 (Nat.le_refl _))
  have hb01 := Box.mk ((chg0 (S := fun _ => False) hb1).blk hb0.out (fun h => h))
  have hF := hRef.out w1
  clear hb1 hRef hb0 hbel0
  go_wp2_with fail
  refine hF.mono ?_
  clear hF
  rintro e w2 ⟨rfl, k2, hb2⟩
  have hA2 : Box (SpA w w2 bc w1.heap.size [Value.string t, .string o, .int .u8 (nn : Int), .int .u16 (at_ : Int), .int .u8 (bi : Int)] s h) :=
    ⟨⟨(chg0 (S := fun _ => False) hb2).blk hb01.out (fun h => h), ⟨k2, hh4⟩, hKB.out.below (mono_bel hB1.out hb2 (Nat.le_refl _)) hKB.out.lt, mono_bel hB1.out hb2 (Nat.le_refl _), hKB.out⟩⟩
  obtain ⟨bw, hbw⟩ : ∃ b, w1.heap.size = b := ⟨_, rfl⟩
  rw [hbw] at hA2 ⊢
  have c2 : w2.cell? ⟨bc, 2, none⟩ = some (.int .u8 (nn : Int)) := hA2.out.blk.cell 2
  have c0 : w2.cell? ⟨bc, 0, none⟩ = some (.string t) := hA2.out.blk.cell 0
  have hF := hAt.out bw w2 hA2.out.ref
  clear k2 hb2 hB1 hb01 hbw
  go_wp2_with fail
  refine hF.mono ?_
  clear hF c2 c0
  rintro e w3 ⟨rfl, hb3⟩
  have hA3 := Box.mk (hA2.out.here hb3)
  have hcv := Lib.run_convert_string_bytes (P := Tryz.prog) w3 9 49 5 z (u := .string) Tryz.underlying9 Tryz.underlying49 Tryz.underlying5
  have hb4 := bytesWorld_belowL w3 5 z
  have hA4 := Box.mk (hA3.out.here hb4)
  have hY4 := Box.mk (ByAt.made w3 z)
  obtain ⟨w4, hw4⟩ : ∃ w4, Lib.bytesWorld w3 5 z = w4 := ⟨_, rfl⟩
  have hg4 : Box (w.heap.size ≤ w3.heap.size) := ⟨hA3.out.bel.size⟩
  obtain ⟨g, hg⟩ : ∃ g, w3.heap.size = g := ⟨_, rfl⟩
  obtain ⟨cg, hcg⟩ : ∃ c, grownCap w3 z.size 0 5 = c := ⟨_, rfl⟩
  rw [hw4] at hcv hA4 hY4
  rw [hg] at hcv hY4 hg4
  rw [hcg] at hcv
  obtain ⟨N, hNe⟩ : ∃ N, z.size = N := ⟨_, rfl⟩
  rw [hNe] at hcv
  obtain ⟨zl, hzl⟩ : ∃ l, z.data.toList = l := ⟨_, rfl⟩
  have hzN : Box (zl.length = N) := ⟨by rw [← hNe, ← hzl]; exact data_len z⟩
  have hzz : Box (z = ⟨zl.toArray⟩) := ⟨by rw [← hzl]⟩
  rw [hzl] at hY4
  have hN0 : 291 ≤ N ∧ N ≤ 1000 := by have := hzs.out; omega
  clear hb3 hA2 hA3 hb4 hw4 hg hcg hNe hzs hzl
  go_wp2_with fail
  clear hcv
  refine region_quiet (fun w' => SpB w w' bc bw [Value.string t, .string o, .int .u8 (nn : Int), .int .u16 (at_ : Int), .int .u8 (bi : Int)] s h g zl g zl) (by kernel_rfl) (by kernel_rfl) (SpB.here ⟨hA4.out, hY4.out, hY4.out⟩ (dB _)) ?_
  repeat (go_big_quiet_step (first | exact fun _ => rfl | rfl))
  refine quiet_call rfl (.string y) (fun w' hw' => hw'.cls (hID.out bw w' hw'.a.ref)) (fun w' _ => by go_simp) ?_
  simp only [Act.put, List.setIfInBounds_toArray, List.set_cons_succ, List.set_cons_zero]
  repeat (go_big_quiet_step (first | exact fun _ => rfl | rfl))
  refine quiet_val rfl (.string t) (fun w' hw' => by have h3 : w'.cell? ⟨bc, 0, none⟩ = some (.string t) := hw'.a.blk.cell 0; go_simp) ?_
  simp only [Act.put, List.setIfInBounds_toArray, List.set_cons_succ, List.set_cons_zero]
  repeat (go_big_quiet_step (first | exact fun _ => rfl | rfl))
  refine quiet_val rfl (.string z) (fun w' hw' => by have h3 := hw'.y.text' hzN.out cg hzz.out; go_simp) ?_
  simp only [Act.put, List.setIfInBounds_toArray, List.set_cons_succ, List.set_cons_zero]
  repeat (go_big_quiet_step (first | exact fun _ => rfl | rfl))
  refine quiet_call rfl (.int .i64 0) (fun w' hw' => by rw [← hVb.out]; exact hw'.cls (verify_any y t z w' hw'.a.kis (by have := ht.out; omega))) (fun w' _ => by go_simp) ?_
  simp only [Act.put, List.setIfInBounds_toArray, List.set_cons_succ, List.set_cons_zero]
  repeat (go_big_quiet_step (first | exact fun _ => rfl | rfl))
  refine wpQuiet_nil ?_
  clear hA4 hY4
  intro w5 hB5
  replace hB5 := Box.mk hB5
  obtain ⟨k, hk⟩ : ∃ k, at_ % N = k := ⟨_, rfl⟩
  have hki : (at_ : Int).tmod (N : Int) = (k : Int) := by rw [Int.tmod_eq_emod_of_nonneg (by omega), ← hk]; simp
  have hkN : k < N := by rw [← hk]; exact Nat.mod_lt _ (by omega)
  have hkl : k < zl.length := by rw [hzN.out]; exact hkN
  obtain ⟨yb, hyb⟩ := xor8 (zl[k]).toNat bi
  obtain ⟨xb, hxb⟩ : ∃ x, (zl[k]).toNat = x := ⟨_, rfl⟩
  have hxc : Box (∀ w', ByAt w' g zl → w'.cell? ⟨g, k, none⟩ = some (.int .u8 (xb : Int))) := ⟨fun w' hy => by rw [← hxb]; exact hy.cell k hkl⟩
  have hfr : Box (∀ w', ByAt w' g zl → w'.frozen? ⟨g, k, none⟩ = false) := ⟨fun w' hy => hy.free k hkl⟩
  rw [hxb] at hyb
  have hxl : xb < 256 := by rw [← hxb]; exact UInt8.toNat_lt _
  clear hk hxb hkl
  go_wp2_with fail
  refine region_steady (fun w' => SpB w w' bc bw [Value.string t, .string o, .int .u8 (nn : Int), .int .u16 (at_ : Int), .int .u8 (bi : Int)] s h g zl g zl) (fun w w' => Below w.heap.size w w') rfl (hB5.out.here (dB w5)) ?_
  refine anyS_calms [0, 1, 2, 3, 4, 5, 6, 7, 8, 9, 10, 11, 12] 1 rfl (fun _ => Below.refl _ _) SpB.st (by kernel_rfl) (by kernel_rfl) (by kernel_rfl) ?_
  simp [nth]
  try simp only [Act.put]
  repeat (go_big_quiet_step (first | exact fun _ => rfl | rfl))
  refine quiet_val rfl (.int .u16 (at_ : Int)) (fun w' hw' => by have h3 : w'.cell? ⟨bc, 3, none⟩ = some (.int .u16 (at_ : Int)) := hw'.a.blk.cell 3; go_simp) ?_
  simp only [Act.put, List.setIfInBounds_toArray, List.set_cons_succ, List.set_cons_zero]
  repeat (go_big_quiet_step (first | exact fun _ => rfl | rfl))
  refine quiet_val rfl (.int .u8 (xb : Int)) (fun w' hw' => by have h3 := hxc.out w' hw'.y; go_simp) ?_
  simp only [Act.put, List.setIfInBounds_toArray, List.set_cons_succ, List.set_cons_zero]
  repeat (go_big_quiet_step (first | exact fun _ => rfl | rfl))
  refine quiet_val rfl (.int .u8 (bi : Int)) (fun w' hw' => by have h3 : w'.cell? ⟨bc, 4, none⟩ = some (.int .u8 (bi : Int)) := hw'.a.blk.cell 4; go_simp) ?_
  simp only [Act.put, List.setIfInBounds_toArray, List.set_cons_succ, List.set_cons_zero]
  repeat (go_big_quiet_step (first | exact fun _ => rfl | rfl))
  refine wpQuiet_nil ?_
  refine anyS_last 13 (by kernel_rfl) rfl rfl (by kernel_rfl) (by kernel_rfl) (fun wd hBd K hK => ?_)
  have hfd := hfr.out wd hBd.y
  have hcd := hxc.out wd hBd.y
  have hgl := hBd.y.lt
  have hA6 := hBd.a.put hBd.y hg4.out k (.int .u8 ((yb.toNat : Nat) : Int))
  have hY6 := hBd.y.set k yb
  have hl6 : (zl.set k yb).length = N := by rw [List.length_set]; exact hzN.out
  obtain ⟨l6, hl6e⟩ : ∃ l, zl.set k yb = l := ⟨_, rfl⟩
  rw [hl6e] at hY6 hl6
  obtain ⟨w6, hw6⟩ : ∃ w6, wd.setCell ⟨g, k, none⟩ (.int .u8 ((yb.toNat : Nat) : Int)) = w6 := ⟨_, rfl⟩
  rw [hw6] at hA6 hY6
  replace hA6 := Box.mk hA6
  replace hY6 := Box.mk hY6
  replace hl6 := Box.mk hl6
  clear hBd hB5 hl6e hxc hfr
  go_simp
  refine hK _ _ ?_
  clear hK K hfd hcd hgl hw6 hki hkN hyb hxl
  obtain ⟨z6, hz6⟩ : ∃ z : ByteArray, z = ⟨l6.toArray⟩ := ⟨_, rfl⟩
  replace hz6 := Box.mk hz6
  have hF := hID.out bw w6 hA6.out.ref
  clear wd
  go_wp2_with fail
  refine hF.mono ?_
  clear hF
  rintro e w7 ⟨rfl, hb7⟩
  have hA7 := Box.mk (hA6.out.here hb7)
  have hY7 := Box.mk (hY6.out.here hb7)
  have hcv := Lib.run_convert_string_bytes (P := Tryz.prog) w7 9 49 5 y (u := .string) Tryz.underlying9 Tryz.underlying49 Tryz.underlying5
  have hb8 := bytesWorld_belowL w7 5 y
  have hA8 := Box.mk (hA7.out.here hb8)
  have hY8 := Box.mk (hY7.out.here hb8)
  have hI8 := Box.mk (ByAt.made w7 y)
  obtain ⟨w8, hw8⟩ : ∃ w8, Lib.bytesWorld w7 5 y = w8 := ⟨_, rfl⟩
  have hg8 : Box (w.heap.size ≤ w7.heap.size) := ⟨hA7.out.bel.size⟩
  obtain ⟨gi, hgi⟩ : ∃ g, w7.heap.size = g := ⟨_, rfl⟩
  obtain ⟨ci, hci⟩ : ∃ c, grownCap w7 y.size 0 5 = c := ⟨_, rfl⟩
  rw [hw8] at hcv hA8 hY8 hI8
  have hggi : Box (g ≠ w7.heap.size) := ⟨fun e => by have := hY7.out.lt; omega⟩
  rw [hgi] at hcv hI8 hg8 hggi
  rw [hci, hys.out] at hcv
  obtain ⟨yl, hyl⟩ : ∃ l, y.data.toList = l := ⟨_, rfl⟩
  have hylN : Box (yl.length = 32) := ⟨by rw [← hys.out, ← hyl]; exact data_len y⟩
  rw [hyl] at hI8
  have hcv2 := hY8.out.text' hl6.out cg hz6.out
  have cb8 : w8.cell? ⟨bc, 4, none⟩ = some (.int .u8 (bi : Int)) := hA8.out.blk.cell 4
  clear hb7 hb8 hA6 hY6 hA7 hY7 hw8 hgi hci hyl
  by_cases hbi : bi = 0
  · have hbi0 : ((bi : Int) == 0) = true := by simp; omega
    clear hbi
    obtain ⟨k, hk⟩ : ∃ k, at_ % 32 = k := ⟨_, rfl⟩
    have hki : (at_ : Int).tmod 32 = (k : Int) := by rw [Int.tmod_eq_emod_of_nonneg (by omega), ← hk]; simp
    have hkN : k < 32 := by rw [← hk]; exact Nat.mod_lt _ (by omega)
    have hkl : k < yl.length := by rw [hylN.out]; exact hkN
    obtain ⟨yb2, hyb⟩ := xor8 (yl[k]).toNat 1
    obtain ⟨xb2, hxb⟩ : ∃ x, (yl[k]).toNat = x := ⟨_, rfl⟩
    have hcd := hI8.out.cell k hkl
    have hfd := hI8.out.free k hkl
    have hgl := hI8.out.lt
    have cb3 : w8.cell? ⟨bc, 3, none⟩ = some (.int .u16 (at_ : Int)) := hA8.out.blk.cell 3
    rw [hxb] at hyb hcd
    have hA9 := hA8.out.put hI8.out hg8.out k (.int .u8 ((yb2.toNat : Nat) : Int))
    have hI9 := hI8.out.set k yb2
    have hne : g ≠ gi := hggi.out
    have hY9 := Box.mk (hY8.out.of (Below.heap_setCell w8 ⟨gi, k, none⟩ (.int .u8 ((yb2.toNat : Nat) : Int)) g hne))
    have hl9 : Box ((yl.set k yb2).length = 32) := ⟨by rw [List.length_set]; exact hylN.out⟩
    obtain ⟨yl9, hyl9⟩ : ∃ l, yl.set k yb2 = l := ⟨_, rfl⟩
    rw [hyl9] at hI9 hl9
    replace hA9 := Box.mk hA9
    replace hI9 := Box.mk hI9
    obtain ⟨w9, hw9⟩ : ∃ w9, w8.setCell ⟨gi, k, none⟩ (.int .u8 ((yb2.toNat : Nat) : Int)) = w9 := ⟨_, rfl⟩
    rw [hw9] at hA9 hI9 hY9
    have hxl : xb2 < 256 := by rw [← hxb]; exact UInt8.toNat_lt _
    clear hk hxb hkl hne hyl9 hA8 hI8 hY8
    have hyb' : bits .xor .u8 (xb2 : Int) 1 = ((yb2.toNat : Nat) : Int) := hyb
    clear hyb
    go_wp2_with fail
    clear hki hkN hyb' hxl hw9 hcd hfd hgl cb3 cb8 hcv hcv2
    obtain ⟨yt, hyt⟩ : ∃ z : ByteArray, z = ⟨yl9.toArray⟩ := ⟨_, rfl⟩
    replace hyt := Box.mk hyt
    obtain ⟨E1, hE1⟩ : ∃ E, verE yt t z6 = E := ⟨_, rfl⟩
    obtain ⟨E2, hE2⟩ : ∃ E, verE y o z = E := ⟨_, rfl⟩
    replace hE1 := Box.mk hE1
    replace hE2 := Box.mk hE2
    refine region_quiet (fun w' => SpB w w' bc bw [Value.string t, .string o, .int .u8 (nn : Int), .int .u16 (at_ : Int), .int .u8 (bi : Int)] s h g l6 gi yl9) (by kernel_rfl) (by kernel_rfl) (SpB.here ⟨hA9.out, hY9.out, hI9.out⟩ (dB _)) ?_
    repeat (go_big_quiet_step (first | exact fun _ => rfl | rfl))
    refine quiet_val rfl (.string yt) (fun w' hw' => by have h3 := hw'.y2.text' hl9.out ci hyt.out; go_simp) ?_
    simp only [Act.put, List.setIfInBounds_toArray, List.set_cons_succ, List.set_cons_zero]
    repeat (go_big_quiet_step (first | exact fun _ => rfl | rfl))
    refine quiet_val rfl (.string t) (fun w' hw' => by have h3 : w'.cell? ⟨bc, 0, none⟩ = some (.string t) := hw'.a.blk.cell 0; go_simp) ?_
    simp only [Act.put, List.setIfInBounds_toArray, List.set_cons_succ, List.set_cons_zero]
    repeat (go_big_quiet_step (first | exact fun _ => rfl | rfl))
    refine quiet_call rfl (.int .i64 E1) (fun w' hw' => by rw [← hE1.out]; exact hw'.cls (verify_any yt t z6 w' hw'.a.kis (by have := ht.out; omega))) (fun w' _ => by go_simp) ?_
    simp only [Act.put, List.setIfInBounds_toArray, List.set_cons_succ, List.set_cons_zero]
    repeat (go_big_quiet_step (first | exact fun _ => rfl | rfl))
    refine quiet_val rfl (.string yt) (fun w' hw' => by have h3 := hw'.y2.text' hl9.out ci hyt.out; go_simp) ?_
    simp only [Act.put, List.setIfInBounds_toArray, List.set_cons_succ, List.set_cons_zero]
    repeat (go_big_quiet_step (first | exact fun _ => rfl | rfl))
    refine quiet_val rfl (.string t) (fun w' hw' => by have h3 : w'.cell? ⟨bc, 0, none⟩ = some (.string t) := hw'.a.blk.cell 0; go_simp) ?_
    simp only [Act.put, List.setIfInBounds_toArray, List.set_cons_succ, List.set_cons_zero]
    repeat (go_big_quiet_step (first | exact fun _ => rfl | rfl))
    refine quiet_call rfl (.int .i64 E1) (fun w' hw' => by rw [← hE1.out]; exact hw'.cls (r6verify_any yt t z6 w' ht.out)) (fun w' _ => by go_simp) ?_
    simp only [Act.put, List.setIfInBounds_toArray, List.set_cons_succ, List.set_cons_zero]
    repeat (go_big_quiet_step (first | exact fun _ => rfl | rfl))
    refine quiet_call rfl (.string y) (fun w' hw' => hw'.cls (hID.out bw w' hw'.a.ref)) (fun w' _ => by go_simp) ?_
    simp only [Act.put, List.setIfInBounds_toArray, List.set_cons_succ, List.set_cons_zero]
    repeat (go_big_quiet_step (first | exact fun _ => rfl | rfl))
    refine quiet_val rfl (.string o) (fun w' hw' => by have h3 : w'.cell? ⟨bc, 1, none⟩ = some (.string o) := hw'.a.blk.cell 1; go_simp) ?_
    simp only [Act.put, List.setIfInBounds_toArray, List.set_cons_succ, List.set_cons_zero]
    repeat (go_big_quiet_step (first | exact fun _ => rfl | rfl))
    refine quiet_val rfl (.string t) (fun w' hw' => by have h3 : w'.cell? ⟨bc, 0, none⟩ = some (.string t) := hw'.a.blk.cell 0; go_simp) ?_
    simp only [Act.put, List.setIfInBounds_toArray, List.set_cons_succ, List.set_cons_zero]
    repeat (go_big_quiet_step (first | exact fun _ => rfl | rfl))
    refine quiet_call rfl (.string z) (fun w' hw' => hw'.cls (hAt.out bw w' hw'.a.ref)) (fun w' _ => by go_simp) ?_
    simp only [Act.put, List.setIfInBounds_toArray, List.set_cons_succ, List.set_cons_zero]
    repeat (go_big_quiet_step (first | exact fun _ => rfl | rfl))
    refine quiet_call rfl (.int .i64 E2) (fun w' hw' => by rw [← hE2.out]; exact hw'.cls (verify_any y o z w' hw'.a.kis (by have := ho.out; omega))) (fun w' _ => by go_simp) ?_
    simp only [Act.put, List.setIfInBounds_toArray, List.set_cons_succ, List.set_cons_zero]
    repeat (go_big_quiet_step (first | exact fun _ => rfl | rfl))
    refine quiet_call rfl (.string y) (fun w' hw' => hw'.cls (hID.out bw w' hw'.a.ref)) (fun w' _ => by go_simp) ?_
    simp only [Act.put, List.setIfInBounds_toArray, List.set_cons_succ, List.set_cons_zero]
    repeat (go_big_quiet_step (first | exact fun _ => rfl | rfl))
    refine quiet_val rfl (.string o) (fun w' hw' => by have h3 : w'.cell? ⟨bc, 1, none⟩ = some (.string o) := hw'.a.blk.cell 1; go_simp) ?_
    simp only [Act.put, List.setIfInBounds_toArray, List.set_cons_succ, List.set_cons_zero]
    repeat (go_big_quiet_step (first | exact fun _ => rfl | rfl))
    refine quiet_val rfl (.string t) (fun w' hw' => by have h3 : w'.cell? ⟨bc, 0, none⟩ = some (.string t) := hw'.a.blk.cell 0; go_simp) ?_
    simp only [Act.put, List.setIfInBounds_toArray, List.set_cons_succ, List.set_cons_zero]
    repeat (go_big_quiet_step (first | exact fun _ => rfl | rfl))
    refine quiet_call rfl (.string z) (fun w' hw' => hw'.cls (hAt.out bw w' hw'.a.ref)) (fun w' _ => by go_simp) ?_
    simp only [Act.put, List.setIfInBounds_toArray, List.set_cons_succ, List.set_cons_zero]
    repeat (go_big_quiet_step (first | exact fun _ => rfl | rfl))
    refine quiet_call rfl (.int .i64 E2) (fun w' hw' => by rw [← hE2.out]; exact hw'.cls (r6verify_any y o z w' ho.out)) (fun w' _ => by go_simp) ?_
    simp only [Act.put, List.setIfInBounds_toArray, List.set_cons_succ, List.set_cons_zero]
    repeat (go_big_quiet_step (first | exact fun _ => rfl | rfl))
    refine wpQuiet_nil ?_
    intro w9 hB9
    replace hB9 := Box.mk hB9
    go_wp2_with fail
    go_ret
    exact ⟨rfl, hB9.out.a.bel⟩
  · have hbi2 : ¬ (bi : Int) = 0 := by omega
    go_wp2_with fail
    clear hcv hcv2 cb8
    obtain ⟨yt, hyt⟩ : ∃ z : ByteArray, z = ⟨yl.toArray⟩ := ⟨_, rfl⟩
    replace hyt := Box.mk hyt
    obtain ⟨E1, hE1⟩ : ∃ E, verE yt t z6 = E := ⟨_, rfl⟩
    obtain ⟨E2, hE2⟩ : ∃ E, verE y o z = E := ⟨_, rfl⟩
    replace hE1 := Box.mk hE1
    replace hE2 := Box.mk hE2
    refine region_quiet (fun w' => SpB w w' bc bw [Value.string t, .string o, .int .u8 (nn : Int), .int .u16 (at_ : Int), .int .u8 (bi : Int)] s h g l6 gi yl) (by kernel_rfl) (by kernel_rfl) (SpB.here ⟨hA8.out, hY8.out, hI8.out⟩ (dB _)) ?_
    repeat (go_big_quiet_step (first | exact fun _ => rfl | rfl))
    refine quiet_val rfl (.string yt) (fun w' hw' => by have h3 := hw'.y2.text' hylN.out ci hyt.out; go_simp) ?_
    simp only [Act.put, List.setIfInBounds_toArray, List.set_cons_succ, List.set_cons_zero]
    repeat (go_big_quiet_step (first | exact fun _ => rfl | rfl))
    refine quiet_val rfl (.string t) (fun w' hw' => by have h3 : w'.cell? ⟨bc, 0, none⟩ = some (.string t) := hw'.a.blk.cell 0; go_simp) ?_
    simp only [Act.put, List.setIfInBounds_toArray, List.set_cons_succ, List.set_cons_zero]
    repeat (go_big_quiet_step (first | exact fun _ => rfl | rfl))
    refine quiet_call rfl (.int .i64 E1) (fun w' hw' => by rw [← hE1.out]; exact hw'.cls (verify_any yt t z6 w' hw'.a.kis (by have := ht.out; omega))) (fun w' _ => by go_simp) ?_
    simp only [Act.put, List.setIfInBounds_toArray, List.set_cons_succ, List.set_cons_zero]
    repeat (go_big_quiet_step (first | exact fun _ => rfl | rfl))
    refine quiet_val rfl (.string yt) (fun w' hw' => by have h3 := hw'.y2.text' hylN.out ci hyt.out; go_simp) ?_
    simp only [Act.put, List.setIfInBounds_toArray, List.set_cons_succ, List.set_cons_zero]
    repeat (go_big_quiet_step (first | exact fun _ => rfl | rfl))
    refine quiet_val rfl (.string t) (fun w' hw' => by have h3 : w'.cell? ⟨bc, 0, none⟩ = some (.string t) := hw'.a.blk.cell 0; go_simp) ?_
    simp only [Act.put, List.setIfInBounds_toArray, List.set_cons_succ, List.set_cons_zero]
    repeat (go_big_quiet_step (first | exact fun _ => rfl | rfl))
    refine quiet_call rfl (.int .i64 E1) (fun w' hw' => by rw [← hE1.out]; exact hw'.cls (r6verify_any yt t z6 w' ht.out)) (fun w' _ => by go_simp) ?_
    simp only [Act.put, List.setIfInBounds_toArray, List.set_cons_succ, List.set_cons_zero]
    repeat (go_big_quiet_step (first | exact fun _ => rfl | rfl))
    refine quiet_call rfl (.string y) (fun w' hw' => hw'.cls (hID.out bw w' hw'.a.ref)) (fun w' _ => by go_simp) ?_
    simp only [Act.put, List.setIfInBounds_toArray, List.set_cons_succ, List.set_cons_zero]
    repeat (go_big_quiet_step (first | exact fun _ => rfl | rfl))
    refine quiet_val rfl (.string o) (fun w' hw' => by have h3 : w'.cell? ⟨bc, 1, none⟩ = some (.string o) := hw'.a.blk.cell 1; go_simp) ?_
    simp only [Act.put, List.setIfInBounds_toArray, List.set_cons_succ, List.set_cons_zero]
    repeat (go_big_quiet_step (first | exact fun _ => rfl | rfl))
    refine quiet_val rfl (.string t) (fun w' hw' => by have h3 : w'.cell? ⟨bc, 0, none⟩ = some (.string t) := hw'.a.blk.cell 0; go_simp) ?_
    simp only [Act.put, List.setIfInBounds_toArray, List.set_cons_succ, List.set_cons_zero]
    repeat (go_big_quiet_step (first | exact fun _ => rfl | rfl))
    refine quiet_call rfl (.string z) (fun w' hw' => hw'.cls (hAt.out bw w' hw'.a.ref)) (fun w' _ => by go_simp) ?_
    simp only [Act.put, List.setIfInBounds_toArray, List.set_cons_succ, List.set_cons_zero]
    repeat (go_big_quiet_step (first | exact fun _ => rfl | rfl))
    refine quiet_call rfl (.int .i64 E2) (fun w' hw' => by rw [← hE2.out]; exact hw'.cls (verify_any y o z w' hw'.a.kis (by have := ho.out; omega))) (fun w' _ => by go_simp) ?_
    simp only [Act.put, List.setIfInBounds_toArray, List.set_cons_succ, List.set_cons_zero]
    repeat (go_big_quiet_step (first | exact fun _ => rfl | rfl))
    refine quiet_call rfl (.string y) (fun w' hw' => hw'.cls (hID.out bw w' hw'.a.ref)) (fun w' _ => by go_simp) ?_
    simp only [Act.put, List.setIfInBounds_toArray, List.set_cons_succ, List.set_cons_zero]
    repeat (go_big_quiet_step (first | exact fun _ => rfl | rfl))
    refine quiet_val rfl (.string o) (fun w' hw' => by have h3 : w'.cell? ⟨bc, 1, none⟩ = some (.string o) := hw'.a.blk.cell 1; go_simp) ?_
    simp only [Act.put, List.setIfInBounds_toArray, List.set_cons_succ, List.set_cons_zero]
    repeat (go_big_quiet_step (first | exact fun _ => rfl | rfl))
    refine quiet_val rfl (.string t) (fun w' hw' => by have h3 : w'.cell? ⟨bc, 0, none⟩ = some (.string t) := hw'.a.blk.cell 0; go_simp) ?_
    simp only [Act.put, List.setIfInBounds_toArray, List.set_cons_succ, List.set_cons_zero]
    repeat (go_big_quiet_step (first | exact fun _ => rfl | rfl))
    refine quiet_call rfl (.string z) (fun w' hw' => hw'.cls (hAt.out bw w' hw'.a.ref)) (fun w' _ => by go_simp) ?_
    simp only [Act.put, List.setIfInBounds_toArray, List.set_cons_succ, List.set_cons_zero]
    repeat (go_big_quiet_step (first | exact fun _ => rfl | rfl))
    refine quiet_call rfl (.int .i64 E2) (fun w' hw' => by rw [← hE2.out]; exact hw'.cls (r6verify_any y o z w' ho.out)) (fun w' _ => by go_simp) ?_
    simp only [Act.put, List.setIfInBounds_toArray, List.set_cons_succ, List.set_cons_zero]
    repeat (go_big_quiet_step (first | exact fun _ => rfl | rfl))
    refine wpQuiet_nil ?_
    intro w9 hB9
    replace hB9 := Box.mk hB9
    go_wp2_with fail
    go_ret
    exact ⟨rfl, hB9.out.a.bel⟩
theorem u16_nat {n : Int} (h : (Lit.int .u16 n).wf = true) : ∃ k : Nat, k < 65536 ∧ n = (k : Int) := by
  have h0 : IntKind.u16.min ≤ n ∧ n ≤ IntKind.u16.max := by simpa [Lit.wf] using h
  have h1 : IntKind.u16.min = 0 := by decide
  have h2 : IntKind.u16.max = 65535 := by decide
  exact ⟨n.toNat, by omega, by omega⟩
set_option maxRecDepth 100000 in
theorem ch6_cells {H : Type} {enc : TypeId × Value → H} {w : World} {base : Nat} {spare : Nat → Bool} {held : Bool} {fuel : Nat} {cs : List Value} {x : DataW H × List MemPlace}
    (h : DataW.trod enc Tryz.prog w base spare held fuel 48 cs = some x) : ∃ (t o : ByteArray) (n a b : Nat), n < 256 ∧ a < 65536 ∧ b < 256 ∧ cs = [.string t, .string o, .int .u8 (n : Int), .int .u16 (a : Int), .int .u8 (b : Int)] ∧
      t.data.toList.length ∈ x.1.weights Tryz.prog 48 ∧ o.data.toList.length ∈ x.1.weights Tryz.prog 48 := by
  obtain ⟨xs, m, _, hx, hl, hn, hF⟩ := DataW.trod_struct Tryz.underlying48 h
  rw [show Tryz.prog.cellsOf 48 = 5 by kernel_rfl] at hl
  match cs, hl, xs, hn with
  | [c0, c1, c2, c3, c4], _, [x0, x1, x2, x3, x4], _ =>
    have g0 : DataW.trod enc Tryz.prog w base spare held m 9 (([c0, c1, c2, c3, c4].drop 0).take (Tryz.prog.cellsOf 9)) = some x0 := hF 0 _ rfl
    have g1 : DataW.trod enc Tryz.prog w base spare held m 9 (([c0, c1, c2, c3, c4].drop 1).take (Tryz.prog.cellsOf 9)) = some x1 := hF 1 _ rfl
    have g2 : DataW.trod enc Tryz.prog w base spare held m 5 (([c0, c1, c2, c3, c4].drop 2).take (Tryz.prog.cellsOf 5)) = some x2 := hF 2 _ rfl
    have g3 : DataW.trod enc Tryz.prog w base spare held m 46 (([c0, c1, c2, c3, c4].drop 3).take (Tryz.prog.cellsOf 46)) = some x3 := hF 3 _ rfl
    have g4 : DataW.trod enc Tryz.prog w base spare held m 5 (([c0, c1, c2, c3, c4].drop 4).take (Tryz.prog.cellsOf 5)) = some x4 := hF 4 _ rfl
    have z5 : Tryz.prog.cellsOf 5 = 1 := by kernel_rfl
    have z3 : Tryz.prog.cellsOf 46 = 1 := by kernel_rfl
    have z9 : Tryz.prog.cellsOf 9 = 1 := by kernel_rfl
    rw [z9] at g0 g1
    rw [z5] at g2 g4
    rw [z3] at g3
    obtain ⟨t, e0, y0, w0⟩ := DataW.trod_string Tryz.underlying9 g0
    obtain ⟨o, e1, y1, w1⟩ := DataW.trod_string Tryz.underlying9 g1
    obtain ⟨n, e2, y2, w2⟩ := DataW.trod_int Tryz.underlying5 g2
    obtain ⟨a, e3, y3, w3⟩ := DataW.trod_int Tryz.underlying46 g3
    obtain ⟨b, e4, y4, w4⟩ := DataW.trod_int Tryz.underlying5 g4
    obtain ⟨nn, hn, rfl⟩ := u8_nat w2
    obtain ⟨aa, ha, rfl⟩ := u16_nat w3
    obtain ⟨bb, hb, rfl⟩ := u8_nat w4
    simp [List.take, List.drop] at e0 e1 e2 e3 e4 y0 y1 y2 y3 y4
    subst e0 e1 e2 e3 e4 y0 y1 y2 y3 y4
    refine ⟨t, o, nn, aa, bb, hn, ha, hb, rfl, ?_, ?_⟩ <;> (rw [hx]; simp [DataW.weights, Tryz.underlying48, DataW.weightsEach])
set_option maxRecDepth 100000 in
theorem ch6_open {H : Type} {enc : TypeId × Value → H} {W : World} {base : Nat} {v : Value} {d : DataW H} {p : List MemPlace} {ts : List TypeId} {ds : List (DataW H)} {j : Nat}
    (hv : Value.okWide Tryz.prog W .any base 48 v) (h : DataW.Trod enc Tryz.prog W 0 (fun _ => true) true 48 v d p)
    (hz : (DataW.weightsEach Tryz.prog ts ds).all (· ≤ reachBytes) = true) (ht : ts[j]? = some 48) (hd : ds[j]? = some d) :
    ∃ (t o : ByteArray) (n a b : Nat), n < 256 ∧ a < 65536 ∧ b < 256 ∧ v = .agg #[.string t, .string o, .int .u8 (n : Int), .int .u16 (a : Int), .int .u8 (b : Int)] ∧ t.size ≤ 140737488351232 ∧ o.size ≤ 140737488351232 := by
  obtain ⟨cs, rfl, hcs⟩ := okWide_struct Tryz.underlying48 hv
  obtain ⟨fuel, hf⟩ := h
  obtain ⟨t, o, n, a, b, hn, ha, hb, hc, m1, m2⟩ := ch6_cells hf
  have hs : ∀ k, k ∈ d.weights Tryz.prog 48 → k ≤ 140737488351232 := fun k hk => by
    have h4 := List.all_eq_true.1 hz _ (DataW.weights_mem_each (P := Tryz.prog) ht hd k hk)
    have h5 : k ≤ reachBytes := by simpa using h4
    unfold reachBytes at h5
    omega
  have h1 := hs _ m1
  have h2 := hs _ m2
  rw [data_len] at h1 h2
  refine ⟨t, o, n, a, b, hn, ha, hb, ?_, h1, h2⟩
  congr 1
  apply Array.ext'
  simpa [Value.cells] using hc
end Go.Proofs.YtbnmdieadaeeiaaGreatDoor
