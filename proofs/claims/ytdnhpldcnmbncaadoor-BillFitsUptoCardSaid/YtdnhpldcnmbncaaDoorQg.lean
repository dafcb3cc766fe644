/- A drawn region, one operation at a time: a calm one that may go first (go_calm), one that must go next (go_forced), two of which either may go next (go_fork). For regions whose guards stand between calls, and whose buildSlice isn't ordered against a call. No program is named. -/
import Derived.Test.YtdnhpldcnmbncaaDoorQi
namespace Go.Proofs.YtdnhpldcnmbncaaDoor
open Go

section
variable {P : Program} {md : Region.Mode} {ops : Array Oper} {C : World → Prop} {Q : Act → World → Prop} {fuel : Nat} {listed : Array Bool} {a : Act} {w : World}

theorem go_calm {o : Oper} {v : Value} (k : Nat) (hsel : Region.noSelect ops = true) (h0 : ops[k]? = some o) (hr : (Region.ready md ops listed).contains k = true) (hf : Region.free md ops listed k = true) (hC : C w)
    (hy : YieldsP P ops C o v a) (h : anyGo P md ops C Q fuel (listed.setIfInBounds k true) (a.put o.dst v) w) : anyGo P md ops C Q (fuel + 1) listed a w :=
  anyGo_first h0 (Region.noSelect_spec hsel) fuel listed a w hC (Region.free_spec h0 hf) (by simpa using hr) hy h

/-- What a calm operation yields: the same in every world of the class. -/
theorem yields {o : Oper} {v : Value} (hw : Region.wanted o (yielded ops a.tmps) = true) (h : ∀ w, C w → (execOp a.eval o).run P w = .ok (.value v) w) : YieldsP P ops C o v a :=
  .inl ⟨hw, fun w hC => by unfold plainAt; rw [h w hC]; simp [plainUpon]⟩
theorem yields_skip {o : Oper} (hw : Region.wanted o (yielded ops a.tmps) = false) : YieldsP P ops C o undef a := .inr ⟨hw, rfl⟩

theorem go_forced (k : Nat) (hr : Region.ready md ops listed = [k]) (h : goOp P ops k (fun a' w' => C w' ∧ anyGo P md ops C Q fuel (listed.setIfInBounds k true) a' w') a w) : anyGo P md ops C Q (fuel + 1) listed a w := by
  refine ⟨fun h1 => (by rw [hr] at h1; cases h1), fun i hi => ?_⟩
  rw [hr] at hi
  obtain rfl : i = k := by simpa using hi
  exact h

theorem go_fork (i j : Nat) (hr : Region.ready md ops listed = [i, j]) (hi : goOp P ops i (fun a' w' => C w' ∧ anyGo P md ops C Q fuel (listed.setIfInBounds i true) a' w') a w)
    (hj : goOp P ops j (fun a' w' => C w' ∧ anyGo P md ops C Q fuel (listed.setIfInBounds j true) a' w') a w) : anyGo P md ops C Q (fuel + 1) listed a w := by
  refine ⟨fun h1 => (by rw [hr] at h1; cases h1), fun k hk => ?_⟩
  rw [hr] at hk
  obtain rfl | rfl : k = i ∨ k = j := by simpa using hk
  · exact hi
  · exact hj

/-- The operation at a place, by its wp, where its guard lets it. -/
theorem goOp_wp {o : Oper} {R : Act → World → Prop} (k : Nat) (h0 : ops[k]? = some o) (hw : Region.wanted o (yielded ops a.tmps) = true)
    (h : ∀ K : Act → World → Prop, (∀ a w, C w → R a w → K a w) → o.wp P a w K fun _ _ _ => False) : goOp P ops k (fun a' w' => C w' ∧ R a' w') a w := by
  unfold goOp
  simp only [h0, hw, if_true]
  exact go_of_wp (h _ fun _ _ h1 h2 => ⟨h1, h2⟩)

/-- .. and where its guard doesn't. -/
theorem goOp_skip {o : Oper} {R : Act → World → Prop} (k : Nat) (h0 : ops[k]? = some o) (hw : Region.wanted o (yielded ops a.tmps) = false)
    (hC : C w) (h : R (a.put o.dst undef) w) : goOp P ops k (fun a' w' => C w' ∧ R a' w') a w := by
  unfold goOp
  simp only [h0, hw, Bool.false_eq_true, if_false]
  exact ⟨hC, h⟩

theorem go_done (hr : (Region.ready md ops listed).isEmpty = true) (h : Q a w) : anyGo P md ops C Q 0 listed a w := ⟨by simpa using hr, h⟩
end

/-- Which places are marked behind these. -/
def marked : List Nat → Array Bool → Array Bool
  | [], listed => listed
  | k :: is, listed => marked is (listed.setIfInBounds k true)
def headG (md : Region.Mode) (ops : Array Oper) : List Nat → Array Bool → Bool
  | [], _ => true
  | k :: is, listed => (Region.ready md ops listed).contains k && Region.free md ops listed k && headG md ops is (listed.setIfInBounds k true)
/-- Calm operations at these places, any of which may go first. -/
theorem go_plains {P : Program} {md : Region.Mode} {ops : Array Oper} {C : World → Prop} {Q : Act → World → Prop} {fuel : Nat} {w : World} (hsel : Region.noSelect ops = true) (hC : C w) :
    ∀ (is : List Nat) (listed : Array Bool) (a : Act), headG md ops is listed = true → wpPlain P ops C (fun a' => anyGo P md ops C Q fuel (marked is listed) a' w) (nth ops is) a → anyGo P md ops C Q (is.length + fuel) listed a w
  | [], listed, a, _, h => by
    rw [List.length_nil, Nat.zero_add]; exact h
  | k :: is, listed, a, hB, h => by
    simp only [headG, Bool.and_eq_true] at hB
    obtain ⟨⟨hr, hf⟩, hB'⟩ := hB
    have hr' : k ∈ Region.ready md ops listed := by simpa using hr
    obtain ⟨_, o, h0, _⟩ := mem_ready.1 hr'
    rw [nth_cons is h0] at h
    have hy : ∃ v, YieldsP P ops C o v a ∧ wpPlain P ops C (fun a' => anyGo P md ops C Q fuel (marked is (listed.setIfInBounds k true)) a' w) (nth ops is) (a.put o.dst v) := by
      unfold wpPlain at h
      by_cases hw : Region.wanted o (yielded ops a.tmps) = true
      · simp only [hw, if_true] at h
        obtain ⟨v, h1, h2⟩ := h
        exact ⟨v, .inl ⟨hw, h1⟩, h2⟩
      · simp only [hw] at h
        exact ⟨undef, .inr ⟨by simpa using hw, rfl⟩, h⟩
    obtain ⟨v, hy1, hy2⟩ := hy
    have := anyGo_first h0 (Region.noSelect_spec hsel) (is.length + fuel) listed a w hC (Region.free_spec h0 hf) hr' hy1 (go_plains hsel hC is _ _ hB' hy2)
    rw [List.length_cons, show is.length + 1 + fuel = is.length + fuel + 1 by omega]
    exact this
theorem go_calms {P : Program} {md : Region.Mode} {l : List Oper} {C : World → Prop} {Q : Act → World → Prop} {fuel : Nat} {w : World} {listed : Array Bool} {a : Act} (is : List Nat) (fuel' : Nat) (hf : fuel = is.length + fuel') (hsel : Region.noSelect l.toArray = true) (hB : headG md l.toArray is listed = true)
    (hcalm : ((nth l.toArray is).all fun o => calm o.op) = true) (hC : C w)
    (h : wpQuiet P l.toArray C (fun a' => anyGo P md l.toArray C Q fuel' (marked is listed) a' w) (nth l.toArray is) a) : anyGo P md l.toArray C Q fuel listed a w := by
  subst hf
  exact go_plains hsel hC is listed a hB (plain_of_quiet _ _ hcalm h)

theorem region_go {P : Program} (C : World → Prop) {id : Nat} {Q : Exit → Act → World → Prop} {a : Act} {w : World} {l : List Oper} (hm : P.follows .mixedOrders = true)
    (h : anyGo P .any l.toArray C (Q .normal) l.length (Array.replicate l.length false) a w.drew) : (Code.region id l.toArray true).wp P Q a w := by
  refine wp_region_any hm ?_
  have h2 := any_of_go (fun _ _ h => h) _ _ _ _ h
  simpa using h2
end Go.Proofs.YtdnhpldcnmbncaaDoor
