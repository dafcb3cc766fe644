/- A region that draws its order and calls, walked once: every call yields one value in every world of a class, and leaves a world of it. No program is named. | A region that draws its order, where calls and other steps race: a call that yields one value and keeps a class of worlds may go first, whatever else is to come (anyS_call); what makes or changes memory goes where it must (anyS_forced), or in each of its places (anyS_fork), and may narrow the class; the last one need keep nothing (anyS_last). No program is named. -/
import Derived.BigQuiet
import Derived.Test.YthkfefkcjcgfkaaGreatDoorWa9
set_option linter.all false
namespace Go.Proofs.YthkfefkcjcgfkaaGreatDoor
open Go

section
variable {P : Program} {ops : Array Oper} {C : World → Prop} {Q : Act → Prop} {a : Act} {o : Oper} {rest : List Oper}
/-- A call: one value, and a world of the class behind. -/
theorem quiet_call (hw : Region.wanted o (yielded ops a.tmps) = true) {f : FuncId} {args : Array Value} (v : Value)
    (hc : ∀ w, C w → Calls P f args w fun e w' => e = .returned v ∧ C w') (hr : ∀ w, C w → (execOp a.eval o).run P w = .ok (.enter f args) w) (h : wpQuiet P ops C Q rest (a.put o.dst v)) : wpQuiet P ops C Q (o :: rest) a := by
  unfold wpQuiet
  simp only [hw, if_true]
  refine ⟨v, fun w hC => ?_, h⟩
  unfold Oper.quietAt
  rw [hr w hC]
  exact ⟨rfl, hc w hC⟩
/-- Any other operation that hands back one value in every world of the class. -/
theorem quiet_val (hw : Region.wanted o (yielded ops a.tmps) = true) (v : Value)
    (hv : ∀ w, C w → (execOp a.eval o).run P w = .ok (.value v) w) (h : wpQuiet P ops C Q rest (a.put o.dst v)) : wpQuiet P ops C Q (o :: rest) a := by
  unfold wpQuiet
  simp only [hw, if_true]
  refine ⟨v, fun w hC => ?_, h⟩
  unfold Oper.quietAt
  simp [hv w hC, Oper.quietUpon]
end
/-- The region, its operations written out. -/
theorem region_quiet {P : Program} (C : World → Prop) {id : Nat} {Q : Exit → Act → World → Prop} {a : Act} {w : World} {l : List Oper} (hm : P.follows .mixedOrders = true) (hB : Region.lexB .any l.toArray = true) (hC : C w.drew)
    (h : wpQuiet P l.toArray C (fun a' => ∀ w', C w' → Q .normal a' w') l a) : (Code.region id l.toArray true).wp P Q a w :=
  wp_region_quiet (C := C) hm hB hC (by simpa using h)
end Go.Proofs.YthkfefkcjcgfkaaGreatDoor

namespace Go.Proofs.YthkfefkcjcgfkaaGreatDoor
open Go

/-- Operations that never call. -/
def calm2 : Op → Bool
  | .extract _ _ | .build _ _ | .box _ _ | .lookup _ _ _ _ | .makeInterface _ _ | .typeAssert _ _ _ _ => true
  | .call { callee := .builtin b, .. } => match b with
    | .len | .cap | .min | .max => true
    | _ => false
  | o => calm o
theorem calm2_only {P : Program} (ρ : Operand → Value) (o : Oper) (ho : calm2 o.op = true) (w : World) (f : FuncId) (args : Array Value) (w' : World) :
    (execOp ρ o).run P w ≠ .ok (.enter f args) w' := by
  by_cases hc : calm o.op = true
  · exact calm_only ρ o hc w f args w'
  · cases hop : o.op <;> rw [hop] at ho hc <;> simp only [calm2, calm, Bool.false_eq_true, not_true_eq_false] at ho hc
    case call c =>
      obtain ⟨callee, xs, ats⟩ := c
      cases callee <;> simp only [Bool.false_eq_true] at ho
      case builtin b =>
        unfold execOp
        simp only [hop, resolve]
        cases b <;> simp only [Bool.false_eq_true] at ho
        all_goals (simp only [pure_bind, invoke, builtin]; exact value_only _ w f args w')
    all_goals (unfold execOp; simp only [hop]; exact value_only _ w f args w')

section
variable {P : Program} {ops : Array Oper} {md : Region.Mode} {B : World → Prop} {R : World → World → Prop}

/-- A class below B that a step of R doesn't leave. -/
def St (B : World → Prop) (R : World → World → Prop) (C : World → Prop) : Prop := (∀ w, C w → B w) ∧ ∀ w w', C w → R w w' → C w'
/-- What each waits for, itself or through others: a bit for each. -/
def ancs (md : Region.Mode) (ops : Array Oper) : List Nat := ops.toList.foldl (fun ms o => ms ++ [o.after.toList.foldl (fun x e => if Region.binds md e then x ||| (1 <<< e.on) ||| ms.getD e.on 0 else x) 0]) []
def anc (md : Region.Mode) (ops : Array Oper) (m k : Nat) : Bool := ((ancs md ops).getD m 0).testBit k
/-- What it waits for through others, one of those that it waits for itself waits for. -/
def soundA (md : Region.Mode) (ops : Array Oper) : Bool := (ancs md ops).length == ops.size && (List.range ops.size).all fun m => (List.range ops.size).all fun k => !(anc md ops m k) || match ops[m]? with
  | none => false
  | some o => o.after.any fun e => Region.binds md e && (e.on == k || anc md ops e.on k)
theorem soundA_spec (h : soundA md ops = true) {m k : Nat} {o : Oper} (hm : ops[m]? = some o) (hk : k < ops.size) (ha : anc md ops m k = true) : ∃ e ∈ o.after, Region.binds md e = true ∧ (e.on = k ∨ anc md ops e.on k = true) := by
  simp only [soundA, Bool.and_eq_true, List.all_eq_true, List.mem_range] at h
  have h2 := h.2 m (Array.getElem?_eq_some_iff.1 hm).1 k hk
  rw [ha, hm] at h2
  simp only [Bool.not_true, Bool.false_or] at h2
  obtain ⟨e, he, hb⟩ := Array.any_eq_true'.1 h2
  simp only [Bool.and_eq_true, Bool.or_eq_true, beq_iff_eq] at hb
  exact ⟨e, he, hb.1, hb.2⟩
theorem anc_out (h : soundA md ops = true) {m k : Nat} (hm : ops[m]? = none) : anc md ops m k = false := by
  simp only [soundA, Bool.and_eq_true, beq_iff_eq] at h
  have h1 : (ancs md ops).length ≤ m := by rw [h.1]; exact Array.getElem?_eq_none_iff.1 hm
  rw [anc, List.getD_eq_getElem?_getD, List.getElem?_eq_none h1]
  simp
/-- It waits for every other (itself, or through others), but for those that wait for it. -/
def closing (md : Region.Mode) (ops : Array Oper) (i : Nat) : Bool := (List.range ops.size).all fun k => k == i || anc md ops i k || match ops[k]? with
    | none => false
    | some o3 => o3.after.any fun e => Region.binds md e && e.on == i
theorem closing_spec {i k : Nat} (h : closing md ops i = true) (hk : k < ops.size) (hne : k ≠ i) : anc md ops i k = true ∨ ∃ o3, ops[k]? = some o3 ∧ ∃ e ∈ o3.after, Region.binds md e = true ∧ e.on = i := by
  simp only [closing, List.all_eq_true, List.mem_range, Bool.or_eq_true, beq_iff_eq] at h
  rcases h k hk with (h | h) | h
  · exact absurd h hne
  · exact .inl h
  · cases h3 : ops[k]? with
    | none => rw [h3] at h; cases h
    | some o3 =>
      rw [h3] at h
      obtain ⟨e, he, hb⟩ := Array.any_eq_true'.1 h
      simp only [Bool.and_eq_true, beq_iff_eq] at hb
      exact .inr ⟨o3, rfl, e, he, hb⟩
/-- Nothing that is listed waits for it. -/
def noDep (md : Region.Mode) (ops : Array Oper) (listed : Array Bool) (i : Nat) : Bool := soundA md ops && (List.range ops.size).all fun m => !(listed.getD m true) || !(anc md ops m i)
theorem noDep_spec {listed : Array Bool} {i : Nat} (h : noDep md ops listed i = true) : soundA md ops = true ∧ ∀ m om, ops[m]? = some om → listed.getD m true = true → anc md ops m i = false := by
  simp only [noDep, Bool.and_eq_true, List.all_eq_true, List.mem_range] at h
  refine ⟨h.1, fun m om hm hl => ?_⟩
  have h2 := h.2 m (Array.getElem?_eq_some_iff.1 hm).1
  rw [hl] at h2
  simpa using h2
theorem getD_up {l : Array Bool} {i : Nat} (h : l.getD i false = true) : l.getD i true = true := by
  unfold Array.getD at *
  split at h <;> simp_all
def headN (md : Region.Mode) (ops : Array Oper) : List Nat → Array Bool → Bool
  | [], _ => true
  | k :: is, listed => noDep md ops listed k && headN md ops is (listed.setIfInBounds k true)

/-- Whatever order is picked from here on, in each world of the class. -/
def anyS (P : Program) (md : Region.Mode) (ops : Array Oper) (B : World → Prop) (R : World → World → Prop) (Q : Act → World → Prop) : Nat → Array Bool → Act → (World → Prop) → Prop
  | 0, listed, a, C => Region.ready md ops listed = [] ∧ ∀ w, C w → Q a w
  | fuel + 1, listed, a, C =>
    (Region.ready md ops listed = [] → ∀ w, C w → Q a w) ∧
    ∀ i ∈ Region.ready md ops listed, ∀ w, C w → goOp P ops i (fun a' w' => (∃ C', St B R C' ∧ C' w' ∧ anyS P md ops B R Q fuel (listed.setIfInBounds i true) a' C') ∨
      (closing md ops i = true ∧ anyGo P md ops (fun _ => True) Q fuel (listed.setIfInBounds i true) a' w')) a w
theorem any_of_S {Q : Act → World → Prop} {Q' : Exit → Act → World → Prop} (hQ : ∀ a w, Q a w → Q' .normal a w) : ∀ (fuel : Nat) (listed : Array Bool) (a : Act) (w : World) (C : World → Prop), C w →
    anyS P md ops B R Q fuel listed a C → wpAny P md ops Q' fuel listed a w
  | 0, _, _, w, _, hC, h => ⟨h.1, hQ _ _ (h.2 w hC)⟩
  | fuel + 1, listed, _, w, _, hC, h => ⟨fun h0 => hQ _ _ (h.1 h0 w hC), fun i hi => wpOp_of_go (goOp_mono (fun a' w' h' => by
      rcases h' with ⟨C', _, hC', h'⟩ | ⟨_, h'⟩
      · exact any_of_S hQ fuel _ _ _ C' hC' h'
      · exact any_of_go hQ fuel _ _ _ h') (h.2 i hi w hC))⟩
/-- One value, in every world of the base, and a step of R. -/
def steadyUpon (P : Program) (v : Value) (K : World → Prop) : Result Next → Prop
  | .ok (.value u) w' => u = v ∧ K w'
  | .ok .skip w' => v = undef ∧ K w'
  | .ok (.enter f args) w' => Calls P f args w' (fun e w'' => e = .returned v ∧ K w'')
  | _ => False
def YieldsS (P : Program) (ops : Array Oper) (B : World → Prop) (R : World → World → Prop) (o : Oper) (v : Value) (a : Act) : Prop :=
  (Region.wanted o (yielded ops a.tmps) = true ∧ ∀ w, B w → steadyUpon P v (R w) ((execOp a.eval o).run P w)) ∨ (Region.wanted o (yielded ops a.tmps) = false ∧ v = undef)
theorem YieldsS.of_same {o : Oper} {v : Value} {a a' : Act} (hy : YieldsS P ops B R o v a) (he : execOp a'.eval o = execOp a.eval o)
    (hw : Region.wanted o (yielded ops a'.tmps) = Region.wanted o (yielded ops a.tmps)) : YieldsS P ops B R o v a' := by
  unfold YieldsS at *
  rw [he, hw]
  exact hy
theorem YieldsS.goOp (hR : ∀ w, R w w) {i : Nat} {o : Oper} {v : Value} {a : Act} {w : World} (hB : B w) (hi : ops[i]? = some o) (hy : YieldsS P ops B R o v a) {K : Act → World → Prop} (h : ∀ w', R w w' → K (a.put o.dst v) w') : goOp P ops i K a w := by
  unfold Proofs.YthkfefkcjcgfkaaGreatDoor.goOp
  simp only [hi]
  rcases hy with ⟨hw, hv⟩ | ⟨hw, rfl⟩
  · simp only [hw, if_true]
    have h3 := hv w hB
    unfold goAt
    generalize (execOp a.eval o).run P w = r at *
    cases r with
    | ok n w' =>
      cases n <;> simp only [steadyUpon] at h3 <;> simp only [goUpon]
      case value u => obtain ⟨rfl, h4⟩ := h3; exact h _ h4
      case skip => obtain ⟨rfl, h4⟩ := h3; exact h _ h4
      case enter f args => exact h3.mono fun e w'' ⟨he, h4⟩ => ⟨v, he, h _ h4⟩
    | halt x w' => simp only [steadyUpon] at h3
  · simp only [hw, Bool.false_eq_true, if_false]; exact h _ (hR w)
theorem goOp_putS {j : Nat} {oi oj : Oper} {v : Value} (hj : ops[j]? = some oj) (hap : oi.apart ops oj = true)
    (hsi : ∀ cs b, oi.op ≠ .select cs b) (hsj : ∀ cs b, oj.op ≠ .select cs b) {K : Act → World → Prop} {a : Act} {w : World}
    (hy : YieldsS P ops B R oi v a) (h : goOp P ops j K (a.put oi.dst v) w) :
    goOp P ops j (fun a' w' => YieldsS P ops B R oi v a' ∧ K (a'.put oi.dst v) w') a w := by
  obtain ⟨h1, h2, h3⟩ := Oper.apart_spec hap
  have keep : ∀ (a : Act), YieldsS P ops B R oi v a → ∀ u, YieldsS P ops B R oi v (a.put oj.dst u) := fun a hy u =>
    hy.of_same (execOp_put oi hsi a oj.dst u h3) (wanted_put oi a oj.dst u h3)
  unfold goOp at *
  simp only [hj] at *
  rw [wanted_put oj a oi.dst v h1] at h
  split
  · rename_i hw
    simp only [hw, if_true] at h
    unfold goAt at *
    rw [execOp_put oj hsj a oi.dst v h1] at h
    generalize (execOp a.eval oj).run P w = r at *
    cases r with
    | ok n w' =>
      cases n <;> simp only [goUpon] at h ⊢
      case value u => exact ⟨keep a hy u, by rw [← Act.put_comm a v u h2]; exact h⟩
      case skip => exact ⟨keep a hy _, by rw [← Act.put_comm a v undef h2]; exact h⟩
      case defer d =>
        have e1 : ({ (a.put oi.dst v) with defers := d :: (a.put oi.dst v).defers } : Act) = ({ a with defers := d :: a.defers } : Act).put oi.dst v := by
          cases oi.dst <;> rfl
        have hy2 : YieldsS P ops B R oi v { a with defers := d :: a.defers } := hy
        exact ⟨keep _ hy2 _, by rw [← Act.put_comm _ v undef h2, ← e1]; exact h⟩
      case row r args => exact h.mono fun u w'' hk => ⟨keep a hy u, by rw [← Act.put_comm a v u h2]; exact hk⟩
      case enter f args => exact h.mono fun e w'' ⟨u, he, hk⟩ => ⟨u, he, keep a hy u, by rw [← Act.put_comm a v u h2]; exact hk⟩
    | halt x w' => simp only [goUpon] at h
  · rename_i hw
    simp only [hw] at h
    exact ⟨keep a hy _, by rw [← Act.put_comm a v undef h2]; exact h⟩

theorem anyS_first {Q : Act → World → Prop} {i : Nat} {oi : Oper} {v : Value} (hR : ∀ w, R w w) (hi : ops[i]? = some oi) (hsel : ∀ (j : Nat) (o : Oper) cs b, ops[j]? = some o → o.op ≠ .select cs b) :
    ∀ (fuel : Nat) (listed : Array Bool) (a : Act) (C : World → Prop), St B R C →
      (∀ j oj, ops[j]? = some oj → j ≠ i → listed.getD j true = false → (∀ e ∈ oj.after, Region.binds md e = true → e.on ≠ i) → oi.apart ops oj = true) →
      (soundA md ops = true ∧ ∀ m om, ops[m]? = some om → listed.getD m true = true → anc md ops m i = false) →
      i ∈ Region.ready md ops listed → YieldsS P ops B R oi v a →
      anyS P md ops B R Q fuel (listed.setIfInBounds i true) (a.put oi.dst v) C → anyS P md ops B R Q (fuel + 1) listed a C := by
  have hlt : i < ops.size := (Array.getElem?_eq_some_iff.1 hi).1
  intro fuel
  induction fuel with
  | zero =>
    intro listed a C hS _ _ hr hy H
    refine ⟨fun h => (by rw [h] at hr; cases hr), fun j hj w hw => ?_⟩
    by_cases hji : j = i
    · subst hji; exact hy.goOp hR (hS.1 w hw) hi fun w' h => .inl ⟨C, hS, hS.2 w w' hw h, H⟩
    · have := ready_mono hj hji
      rw [H.1] at this
      cases this
  | succ fuel ih =>
    intro listed a C hS hfree hnd hr hy H
    refine ⟨fun h => (by rw [h] at hr; cases hr), fun j hj w hw => ?_⟩
    by_cases hji : j = i
    · subst hji; exact hy.goOp hR (hS.1 w hw) hi fun w' h => .inl ⟨C, hS, hS.2 w w' hw h, H⟩
    · have h1 := H.2 j (ready_mono hj hji) w hw
      obtain ⟨hjun, oj, hoj, hall⟩ := mem_ready.1 hj
      have hnot : ∀ e ∈ oj.after, Region.binds md e = true → e.on ≠ i := fun e he hb heq => by
        have h1 := hall e he hb
        rw [heq, getD_both (mem_ready.1 hr).1] at h1
        cases h1
      have h2 := goOp_putS hoj (hfree j oj hoj hji hjun hnot) (fun cs b => hsel i oi cs b hi) (fun cs b => hsel j oj cs b hoj) hy h1
      have hfree' : ∀ k ok, ops[k]? = some ok → k ≠ i → (listed.setIfInBounds j true).getD k true = false →
          (∀ e ∈ ok.after, Region.binds md e = true → e.on ≠ i) → oi.apart ops ok = true := fun k ok hk hki hun hno => by
        refine hfree k ok hk hki ?_ hno
        by_cases hjk : j = k
        · subst hjk; exact hjun
        · rw [getD_set_ne true hjk] at hun; exact hun
      have hji' : anc md ops j i = false := by
        cases hx : anc md ops j i with
        | false => rfl
        | true =>
          obtain ⟨e, he, hb, hon | hon⟩ := soundA_spec hnd.1 hoj hlt hx
          · exact absurd hon (hnot e he hb)
          · have h9 := getD_up (hall e he hb)
            cases h8 : ops[e.on]? with
            | none =>
              rw [anc_out hnd.1 h8] at hon
              cases hon
            | some om =>
              rw [hnd.2 _ om h8 h9] at hon
              cases hon
      have hnd' : soundA md ops = true ∧ ∀ m om, ops[m]? = some om → (listed.setIfInBounds j true).getD m true = true → anc md ops m i = false := ⟨hnd.1, fun m om hm hl => by
        by_cases hjm : j = m
        · subst hjm; exact hji'
        · rw [getD_set_ne true hjm] at hl; exact hnd.2 m om hm hl⟩
      refine goOp_mono (fun a' w' h3 => ?_) h2
      obtain ⟨hy', ⟨C', hS', hC', h4⟩ | ⟨hcl, _⟩⟩ := h3
      · refine .inl ⟨C', hS', hC', ih (listed.setIfInBounds j true) a' C' hS' hfree' hnd' (ready_mono hr (Ne.symm hji)) hy' ?_⟩
        rw [Array.setIfInBounds_comm _ _ hji]
        exact h4
      · rcases closing_spec hcl hlt (Ne.symm hji) with hx | ⟨o3, ho3, e, he, hb, hon⟩
        · rw [hji'] at hx
          cases hx
        · obtain ⟨_, o4, ho4, hall4⟩ := mem_ready.1 hr
          rw [ho3] at ho4
          cases ho4
          have h9 := hall4 e he hb
          rw [hon] at h9
          have h10 := getD_up h9
          rw [hjun] at h10
          cases h10

/-- A call goes first. -/
theorem anyS_call {Q : Act → World → Prop} {C : World → Prop} {fuel : Nat} {listed : Array Bool} {a : Act} {o : Oper} (k : Nat) (v : Value) (hR : ∀ w, R w w) (hS : St B R C) (hsel : Region.noSelect ops = true) (h0 : ops[k]? = some o)
    (hr : (Region.ready md ops listed).contains k = true) (hf : Region.free md ops listed k = true) (hw : Region.wanted o (yielded ops a.tmps) = true) {f : FuncId} {args : Array Value}
    (hc : ∀ w, B w → Calls P f args w fun e w' => e = .returned v ∧ R w w') (hrun : ∀ w, B w → (execOp a.eval o).run P w = .ok (.enter f args) w)
    (h : anyS P md ops B R Q fuel (listed.setIfInBounds k true) (a.put o.dst v) C) (hn : noDep md ops listed k = true := by kernel_rfl) : anyS P md ops B R Q (fuel + 1) listed a C :=
  anyS_first hR h0 (Region.noSelect_spec hsel) fuel listed a C hS (Region.free_spec h0 hf) (noDep_spec hn) (by simpa using hr) (.inl ⟨hw, fun w hB => by rw [hrun w hB]; exact hc w hB⟩) h
theorem anyS_plains {Q : Act → World → Prop} {C : World → Prop} {fuel : Nat} (hR : ∀ w, R w w) (hS : St B R C) (hsel : Region.noSelect ops = true) :
    ∀ (is : List Nat) (listed : Array Bool) (a : Act), headG md ops is listed = true → headN md ops is listed = true → wpPlain P ops B (fun a' => anyS P md ops B R Q fuel (marked is listed) a' C) (nth ops is) a → anyS P md ops B R Q (is.length + fuel) listed a C
  | [], listed, a, _, _, h => by
    rw [List.length_nil, Nat.zero_add]; exact h
  | k :: is, listed, a, hB, hN, h => by
    simp only [headG, Bool.and_eq_true] at hB
    simp only [headN, Bool.and_eq_true] at hN
    obtain ⟨⟨hr, hf⟩, hB'⟩ := hB
    have hr' : k ∈ Region.ready md ops listed := by simpa using hr
    obtain ⟨_, o, h0, _⟩ := mem_ready.1 hr'
    rw [nth_cons is h0] at h
    have hy : ∃ v, YieldsS P ops B R o v a ∧ wpPlain P ops B (fun a' => anyS P md ops B R Q fuel (marked is (listed.setIfInBounds k true)) a' C) (nth ops is) (a.put o.dst v) := by
      unfold wpPlain at h
      by_cases hw : Region.wanted o (yielded ops a.tmps) = true
      · simp only [hw, if_true] at h
        obtain ⟨v, h1, h2⟩ := h
        refine ⟨v, .inl ⟨hw, fun w hBw => ?_⟩, h2⟩
        have h3 := h1 w hBw
        unfold plainAt at h3
        generalize (execOp a.eval o).run P w = r at *
        cases r with
        | ok n w' =>
          cases n <;> simp only [plainUpon] at h3 <;> simp only [steadyUpon]
          case value u => obtain ⟨rfl, rfl⟩ := h3; exact ⟨rfl, hR _⟩
          case skip => obtain ⟨rfl, rfl⟩ := h3; exact ⟨rfl, hR _⟩
        | halt x w' => simp only [plainUpon] at h3
      · simp only [hw] at h
        exact ⟨undef, .inr ⟨by simpa using hw, rfl⟩, h⟩
    obtain ⟨v, hy1, hy2⟩ := hy
    have := anyS_first hR h0 (Region.noSelect_spec hsel) (is.length + fuel) listed a C hS (Region.free_spec h0 hf) (noDep_spec hN.1) hr' hy1 (anyS_plains hR hS hsel is _ _ hB' hN.2 hy2)
    rw [List.length_cons, show is.length + 1 + fuel = is.length + fuel + 1 by omega]
    exact this
theorem plain_of_quiet2 {C : World → Prop} : ∀ (l : List Oper) (a : Act) {Q : Act → Prop}, (l.all fun o => calm2 o.op) = true → wpQuiet P ops C Q l a → wpPlain P ops C Q l a
  | [], a, Q, _, h => h
  | o :: l, a, Q, hl, h => by
    simp only [List.all_cons, Bool.and_eq_true] at hl
    unfold wpQuiet at h
    unfold wpPlain
    by_cases hw : Region.wanted o (yielded ops a.tmps) = true
    · simp only [hw, if_true] at h ⊢
      obtain ⟨v, h1, h2⟩ := h
      refine ⟨v, fun w hC => ?_, plain_of_quiet2 l _ hl.2 h2⟩
      have h3 := h1 w hC
      have h4 := calm2_only (P := P) a.eval o hl.1 w
      unfold Oper.quietAt at h3
      unfold plainAt
      generalize (execOp a.eval o).run P w = r at *
      cases r with
      | ok n w' =>
        cases n <;> simp only [Oper.quietUpon] at h3 <;> simp only [plainUpon]
        case value u => exact h3
        case skip => exact h3
        case enter f args => exact absurd rfl (h4 f args w')
      | halt x w' => simp only [Oper.quietUpon] at h3
    · simp only [hw] at h ⊢
      exact plain_of_quiet2 l _ hl.2 h
/-- Calm ones at these places go first. -/
theorem anyS_calms {l : List Oper} {Q : Act → World → Prop} {C : World → Prop} {fuel : Nat} {listed : Array Bool} {a : Act} (is : List Nat) (fuel' : Nat) (hf : fuel = is.length + fuel') (hR : ∀ w, R w w) (hS : St B R C) (hsel : Region.noSelect l.toArray = true) (hB : headG md l.toArray is listed = true)
    (hcalm : ((nth l.toArray is).all fun o => calm2 o.op) = true)
    (h : wpQuiet P l.toArray B (fun a' => anyS P md l.toArray B R Q fuel' (marked is listed) a' C) (nth l.toArray is) a) (hN : headN md l.toArray is listed = true := by kernel_rfl) : anyS P md l.toArray B R Q fuel listed a C := by
  subst hf
  exact anyS_plains hR hS hsel is listed a hB hN (plain_of_quiet2 _ _ hcalm h)
/-- One that must go next. -/
theorem anyS_forced {Q : Act → World → Prop} {C : World → Prop} {fuel : Nat} {listed : Array Bool} {a : Act} {o : Oper} (k : Nat) (hr : Region.ready md ops listed = [k]) (h0 : ops[k]? = some o) (hw : Region.wanted o (yielded ops a.tmps) = true)
    (h : ∀ w, C w → ∀ K : Act → World → Prop, (∀ a w' C', St B R C' → C' w' → anyS P md ops B R Q fuel (listed.setIfInBounds k true) a C' → K a w') → o.wp P a w K fun _ _ _ => False) : anyS P md ops B R Q (fuel + 1) listed a C := by
  refine ⟨fun h1 => (by rw [hr] at h1; cases h1), fun i hi w hC => ?_⟩
  rw [hr] at hi
  obtain rfl : i = k := by simpa using hi
  unfold goOp
  simp only [h0, hw, if_true]
  exact go_of_wp (h w hC _ fun a' w' C' h1 h2 h3 => .inl ⟨C', h1, h2, h3⟩)
/-- The last one. -/
theorem anyS_last {Q : Act → World → Prop} {C : World → Prop} {fuel : Nat} {listed : Array Bool} {a : Act} {o : Oper} (k : Nat) (hr : Region.ready md ops listed = [k]) (h0 : ops[k]? = some o) (hw : Region.wanted o (yielded ops a.tmps) = true) (hcl : closing md ops k = true) (he : Region.ready md ops (listed.setIfInBounds k true) = [])
    (h : ∀ w, C w → ∀ K : Act → World → Prop, (∀ a w', Q a w' → K a w') → o.wp P a w K fun _ _ _ => False) : anyS P md ops B R Q (fuel + 1) listed a C := by
  refine ⟨fun h1 => (by rw [hr] at h1; cases h1), fun i hi w hC => ?_⟩
  rw [hr] at hi
  obtain rfl : i = k := by simpa using hi
  unfold goOp
  simp only [h0, hw, if_true]
  refine go_of_wp (h w hC _ fun a' w' h1 => .inr ⟨hcl, ?_⟩)
  cases fuel with
  | zero => exact ⟨he, h1⟩
  | succ fuel => exact ⟨fun _ => h1, fun j hj => by rw [he] at hj; cases hj⟩
/-- Two of which either may go next. -/
theorem anyS_fork {Q : Act → World → Prop} {C : World → Prop} {fuel : Nat} {listed : Array Bool} {a : Act} {o o2 : Oper} (i j : Nat) (hr : Region.ready md ops listed = [i, j]) (hi0 : ops[i]? = some o) (hiw : Region.wanted o (yielded ops a.tmps) = true) (hj0 : ops[j]? = some o2) (hjw : Region.wanted o2 (yielded ops a.tmps) = true)
    (hi : ∀ w, C w → ∀ K : Act → World → Prop, (∀ a w' C', St B R C' → C' w' → anyS P md ops B R Q fuel (listed.setIfInBounds i true) a C' → K a w') → o.wp P a w K fun _ _ _ => False)
    (hj : ∀ w, C w → ∀ K : Act → World → Prop, (∀ a w' C', St B R C' → C' w' → anyS P md ops B R Q fuel (listed.setIfInBounds j true) a C' → K a w') → o2.wp P a w K fun _ _ _ => False) : anyS P md ops B R Q (fuel + 1) listed a C := by
  refine ⟨fun h1 => (by rw [hr] at h1; cases h1), fun k hk w hC => ?_⟩
  rw [hr] at hk
  unfold goOp
  obtain rfl | rfl : k = i ∨ k = j := by simpa using hk
  · simp only [hi0, hiw, if_true]
    exact go_of_wp (hi w hC _ fun a' w' C' h1 h2 h3 => .inl ⟨C', h1, h2, h3⟩)
  · simp only [hj0, hjw, if_true]
    exact go_of_wp (hj w hC _ fun a' w' C' h1 h2 h3 => .inl ⟨C', h1, h2, h3⟩)
end
/-- The region. -/
theorem region_steady {P : Program} (B : World → Prop) (R : World → World → Prop) {id : Nat} {Q : Exit → Act → World → Prop} {a : Act} {w : World} {l : List Oper} (hm : P.follows .mixedOrders = true) (hC : B w.drew)
    (h : anyS P .any l.toArray B R (Q .normal) l.length (Array.replicate l.length false) a B) : (Code.region id l.toArray true).wp P Q a w := by
  refine wp_region_any hm ?_
  have h2 := any_of_S (fun _ _ h => h) _ _ _ _ _ hC h
  simpa using h2
end Go.Proofs.YthkfefkcjcgfkaaGreatDoor
